import Derived.Test.YtihjdggmmmlpkaaDoorPM
import Derived.Lib.Hide
namespace Go.Proofs.YtihjdggmmmlpkaaDoor.pf
open Go.ChangeShapes Go.WideShapes Go.ChangeAt Go.RowKit Go.Deep
set_option linter.unusedVariables false
set_option linter.unusedSimpArgs false

/-! ### Profiles: copies of lists that came in; lists that can be written into -/

theorem infoG : (Tryd.prog.info? 59).map (fun i => (i.zero, i.size, i.bytes)) = some (some (.agg #[.int .i64 0, .string ⟨#[]⟩]), 2, 24) := by kernel_rfl
theorem infoP : (Tryd.prog.info? 40).map (fun i => (i.zero, i.size, i.bytes)) = some (some (.agg #[.string ⟨#[]⟩, .int .i64 0, .slice none 0 0]), 3, 48) := by kernel_rfl

theorem makeN {P : Program} (t e : TypeId) (z : Value) (sz bytes : Nat) (ht : P.underlying t = some (.slice e)) (hinfo : (P.info? e).map (fun i => (i.zero, i.size, i.bytes)) = some (some z, sz, bytes))
    (kl kc : IntKind) (n : Nat) (hbytes : bytes * n ≤ 281474976710656) (h63 : n ≤ 9223372036854775807) (w : World) :
    (Instr.makeSlice t (.int kl (n : Int)) (.int kc (n : Int))).run P w = .ok (.slice (some ⟨w.heap.size, 0, none⟩) n n) (w.alloc (.cells (madeCells z.cells (n * sz)) e)) := by
  obtain ⟨i, hi, hzz⟩ := Option.map_eq_some_iff.1 hinfo
  simp only [Prod.mk.injEq] at hzz
  obtain ⟨hz, hs, hb⟩ := hzz
  have hb' : (i.bytes : Int) * (n : Int) ≤ 281474976710656 := by
    have h : ((i.bytes * n : Nat) : Int) ≤ 281474976710656 := by rw [hb]; omega
    rwa [Int.natCast_mul] at h
  have hr := run_make (P := P) w t e i z ht hi hz kl kc n n (by omega) (Int.le_refl _) hb' (by omega)
  simp only [Int.toNat_natCast, hs] at hr
  exact hr

/-- The j-th cell of a row of gens. -/
def cellG (l : List Gn) (j : Nat) : Value := if j % 2 = 0 then .int .i64 (l[j / 2]?.getD default).n else .string (l[j / 2]?.getD default).p
theorem cellG0 {l : List Gn} {k : Nat} {x : Gn} (h : l[k]? = some x) : cellG l (k * 2) = .int .i64 x.n := by
  unfold cellG
  rw [if_pos (by omega), show k * 2 / 2 = k by omega, h]
  rfl
theorem cellG1 {l : List Gn} {k : Nat} {x : Gn} (h : l[k]? = some x) : cellG l (k * 2 + 1) = .string x.p := by
  unfold cellG
  rw [if_neg (by omega), show (k * 2 + 1) / 2 = k by omega, h]
  rfl

theorem mkG_step {w : World} {b e N m : Nat} {f : Nat → Value} {l : List Gn} (h : w.rowIs b e N (fun j => if j < m then cellG l j else f j)) {v : Value} (hv : cellG l m = v) :
    (w.setCell ⟨b, m, none⟩ v).rowIs b e N (fun j => if j < m + 1 then cellG l j else f j) :=
  (h.set m _).congr fun i hi => by
    by_cases h : i = m
    · simp [h, hv]
    · have e : (i < m + 1) ↔ (i < m) := by omega
      simp [h, e]

theorem rowG2 {w : World} {b e N k : Nat} {f : Nat → Value} {l : List Gn} {x : Gn} (hx : l[k]? = some x) (h : w.rowIs b e N (fun j => if j < k * 2 then cellG l j else f j)) :
    ((w.setCell ⟨b, k * 2, none⟩ (.int .i64 x.n)).setCell ⟨b, k * 2 + 1, none⟩ (.string x.p)).rowIs b e N (fun j => if j < (k + 1) * 2 then cellG l j else f j) := by
  have s0 := mkG_step h (cellG0 hx)
  have s1 := mkG_step (m := k * 2 + 1) s0 (cellG1 hx)
  refine s1.congr (fun j hj => ?_)
  rw [show (k + 1) * 2 = k * 2 + 1 + 1 by omega]

theorem rowIs_madeN (w : World) (z : Array Value) (n sz : Nat) (t : TypeId) (hz : z.size = sz) (hs : 0 < sz) : (w.alloc (.cells (madeCells z (n * sz)) t)).rowIs w.heap.size t (n * sz) (fun j => z[j % sz]!) :=
  ⟨_, blk_alloc_new _ _, size_madeCells _ _, fun i hi => by simp [madeCells, hi, hz]⟩

/-- A row of gens that can be written into. -/
def OwG (w : World) (g : Nat) (l : List Gn) : Prop := ∃ N f, l.length * 2 ≤ N ∧ w.rowIs g 59 N f ∧ ∀ (i : Nat) (x : Gn), l[i]? = some x → G2 w g (i * 2) x

theorem OwG.lt {w : World} {g : Nat} {l : List Gn} (h : OwG w g l) : g < w.heap.size := by obtain ⟨N, f, _, hr, _⟩ := h; exact hr.lt
theorem OwG.kept {w w' : World} {g : Nat} {l : List Gn} (h : OwG w g l) (hb : w'.heap[g]? = w.heap[g]?) : OwG w' g l := by
  obtain ⟨N, f, hN, hr, hx⟩ := h
  exact ⟨N, f, hN, hr.of_block hb, fun i x h => (hx i x h).kept hb⟩
theorem OwG.src {w : World} {g : Nat} {l : List Gn} (h : OwG w g l) : SrcG w (some ⟨g, 0, none⟩) l := by
  obtain ⟨N, f, _, _, hx⟩ := h
  exact .inr ⟨g, 0, rfl, fun i x h => by rw [Nat.zero_add]; exact hx i x h⟩
theorem owG_row {w : World} {g N : Nat} {fu : Nat → Value} {l : List Gn} (hr : w.rowIs g 59 N (fun j => if j < l.length * 2 then cellG l j else fu j)) (hN : l.length * 2 ≤ N) : OwG w g l := by
  refine ⟨N, _, hN, hr, fun i x hx => ?_⟩
  have hi := (List.getElem?_eq_some_iff.1 hx).1
  have hc : ∀ j, j < l.length * 2 → w.cell? ⟨g, j, none⟩ = some (cellG l j) := fun j hj => by rw [hr.cell (i := j) (by omega), if_pos hj]
  exact ⟨by rw [hc _ (by omega), cellG0 hx], by rw [hc _ (by omega), cellG1 hx]⟩
theorem owG_row' {w : World} {g : Nat} {l : List Gn} (hr : w.rowIs g 59 (l.length * 2) (cellG l)) : OwG w g l :=
  owG_row (fu := cellG l) (hr.congr fun i hi => by simp) (Nat.le_refl _)

/-- A row of gens with room for c of them. -/
def GC (w : World) (g m c : Nat) : Prop := m ≤ c ∧ c ≤ Go.maxLen ∧ ∃ f, w.rowIs g 59 (c * 2) f
theorem GC.kept {w w' : World} {g m c : Nat} (h : GC w g m c) (hb : w'.heap[g]? = w.heap[g]?) : GC w' g m c := ⟨h.1, h.2.1, by obtain ⟨f, hr⟩ := h.2.2; exact ⟨f, hr.of_block hb⟩⟩

/-- A list of profiles that can be written into, all of it in blocks from lo on and below hi. -/
structure OwP (lo hi : Nat) (w : World) (b : Nat) (gs : Nat → Nat) (ps : List Pr) : Prop where
  blo : lo ≤ b
  bhi : b < hi
  hi_le : hi ≤ w.heap.size
  row : ∃ N f, ps.length * 3 ≤ N ∧ w.rowIs b 40 N f
  ent : ∀ (i : Nat) (x : Pr), ps[i]? = some x → ∃ c, GC w (gs i) x.gens.length c ∧ w.cell? ⟨b, i * 3, none⟩ = some (.string x.name) ∧ w.cell? ⟨b, i * 3 + 1, none⟩ = some (.int .i64 x.now) ∧ w.cell? ⟨b, i * 3 + 2, none⟩ = some (.slice (some ⟨gs i, 0, none⟩) x.gens.length c) ∧ OwG w (gs i) x.gens
  rng : ∀ i, i < ps.length → lo ≤ gs i ∧ gs i < hi ∧ gs i ≠ b
  inj : ∀ i j, i < j → j < ps.length → gs i ≠ gs j

theorem OwP.kept {lo hi : Nat} {w w' : World} {b : Nat} {gs : Nat → Nat} {ps : List Pr} (h : OwP lo hi w b gs ps) (hs : w.heap.size ≤ w'.heap.size) (hk : ∀ k, lo ≤ k → k < hi → w'.heap[k]? = w.heap[k]?) : OwP lo hi w' b gs ps := by
  obtain ⟨h1, h2, h3, ⟨N, f, hN, hr⟩, h5, h6, h7⟩ := h
  have hb := hk b h1 h2
  have k : ∀ o, w'.cell? ⟨b, o, none⟩ = w.cell? ⟨b, o, none⟩ := fun o => World.cell?_of_block (a := ⟨b, o, none⟩) hb
  refine ⟨h1, h2, by omega, ⟨N, f, hN, hr.of_block hb⟩, fun i x hx => ?_, h6, h7⟩
  obtain ⟨c, c0, c1, c2, c3, c4⟩ := h5 i x hx
  have hi' := (List.getElem?_eq_some_iff.1 hx).1
  exact ⟨c, c0.kept (hk _ (h6 i hi').1 (h6 i hi').2.1), (k _).trans c1, (k _).trans c2, (k _).trans c3, c4.kept (hk _ (h6 i hi').1 (h6 i hi').2.1)⟩
theorem OwP.below {lo hi : Nat} {w w' : World} {b : Nat} {gs : Nat → Nat} {ps : List Pr} (h : OwP lo hi w b gs ps) (hb : Below w.heap.size w w') : OwP lo hi w' b gs ps :=
  h.kept hb.size (fun k _ hk => hb.block k (by have := h.hi_le; omega))
theorem OwP.src {lo hi : Nat} {w : World} {b : Nat} {gs : Nat → Nat} {ps : List Pr} (h : OwP lo hi w b gs ps) : SrcP w (some ⟨b, 0, none⟩) ps := by
  refine .inr ⟨b, 0, rfl, fun i x hx => ?_⟩
  obtain ⟨c, c0, c1, c2, c3, c4⟩ := h.ent i x hx
  rw [Nat.zero_add]
  exact ⟨some ⟨gs i, 0, none⟩, c, c1, c2, c3, c4.src⟩

theorem ret_cellG {fn : Func} {i : Tmp} (hf : fn.results = #[.cell i 59]) {tmps : Array Value} {W : World} {b : Nat} {v0 v1 : Value} {R : Ending → World → Prop} (h4 : tmps.getD i undef = .pointer (some ⟨b, 0, none⟩))
    (k0 : W.cell? ⟨b, 0, none⟩ = some v0) (k1 : W.cell? ⟨b, 1, none⟩ = some v1) (hR : R (.returned (.agg #[v0, v1])) W) :
    bodyPost Tryd.prog fn R Exit.ret { tmps := tmps, defers := [] } W := by
  have h4' : tmps[i]?.getD undef = .pointer (some ⟨b, 0, none⟩) := by simpa using h4
  exact bodyPost_ret (v := .agg #[v0, v1]) (by simp [results, hf, go_sem, h4', k0, k1]) rfl hR

theorem ret_cellP {fn : Func} {i : Tmp} (hf : fn.results = #[.cell i 40]) {tmps : Array Value} {W : World} {b : Nat} {v0 v1 v2 : Value} {R : Ending → World → Prop} (h4 : tmps.getD i undef = .pointer (some ⟨b, 0, none⟩))
    (k0 : W.cell? ⟨b, 0, none⟩ = some v0) (k1 : W.cell? ⟨b, 1, none⟩ = some v1) (k2 : W.cell? ⟨b, 2, none⟩ = some v2) (hR : R (.returned (.agg #[v0, v1, v2])) W) :
    bodyPost Tryd.prog fn R Exit.ret { tmps := tmps, defers := [] } W := by
  have h4' : tmps[i]?.getD undef = .pointer (some ⟨b, 0, none⟩) := by simpa using h4
  exact bodyPost_ret (v := .agg #[v0, v1, v2]) (by simp [results, hf, go_sem, h4', k0, k1, k2]) rfl hR

/-- Three cells stored one behind the other are there. -/
theorem three {W : World} {b : Nat} {u0 u1 u2 v0 v1 v2 : Value} (h0 : W.cell? ⟨b, 0, none⟩ = some u0) (h1 : W.cell? ⟨b, 1, none⟩ = some u1) (h2 : W.cell? ⟨b, 2, none⟩ = some u2) :
    (((W.setCell ⟨b, 0, none⟩ v0).setCell ⟨b, 1, none⟩ v1).setCell ⟨b, 2, none⟩ v2).cell? ⟨b, 0, none⟩ = some v0 ∧ (((W.setCell ⟨b, 0, none⟩ v0).setCell ⟨b, 1, none⟩ v1).setCell ⟨b, 2, none⟩ v2).cell? ⟨b, 1, none⟩ = some v1 ∧ (((W.setCell ⟨b, 0, none⟩ v0).setCell ⟨b, 1, none⟩ v1).setCell ⟨b, 2, none⟩ v2).cell? ⟨b, 2, none⟩ = some v2 := by
  have o : ∀ (X : World) (i j : Nat) (v : Value), i ≠ j → (X.setCell ⟨b, i, none⟩ v).cell? ⟨b, j, none⟩ = X.cell? ⟨b, j, none⟩ := fun X i j v h => World.cell?_setCell_other X ⟨b, i, none⟩ ⟨b, j, none⟩ v (by simp [h])
  refine ⟨?_, ?_, ?_⟩
  · rw [o _ _ _ _ (by omega), o _ _ _ _ (by omega)]
    exact World.cell?_setCell_same _ _ _ h0
  · rw [o _ _ _ _ (by omega)]
    exact World.cell?_setCell_same _ _ _ ((o _ _ _ _ (by omega)).trans h1)
  · exact World.cell?_setCell_same _ _ _ ((o _ _ _ _ (by omega)).trans ((o _ _ _ _ (by omega)).trans h2))

theorem blk_oth {w : World} {b c i : Nat} {v : Value} (h : c ≠ b) : (w.setCell ⟨b, i, none⟩ v).heap[c]? = w.heap[c]? := by
  simp only [World.setCell]
  rw [Array.getElem?_modify, if_neg (fun e => h e.symm)]

theorem far {w : World} {b c i j : Nat} {v : Value} (h : b ≠ c) : (w.setCell ⟨b, i, none⟩ v).cell? ⟨c, j, none⟩ = w.cell? ⟨c, j, none⟩ := World.cell?_of_block (a := ⟨c, j, none⟩) (blk_oth (fun e => h e.symm))

/-- What has been copied of a list of profiles. -/
structure CopP (w : World) (b k : Nat) (f : Nat → Value) (gs : Nat → Nat) (ps : List Pr) : Prop where
  ent : ∀ (i : Nat) (x : Pr), i < k → ps[i]? = some x → f (i * 3) = .string x.name ∧ f (i * 3 + 1) = .int .i64 x.now ∧ f (i * 3 + 2) = .slice (some ⟨gs i, 0, none⟩) x.gens.length x.gens.length ∧ OwG w (gs i) x.gens ∧ b < gs i
  inj : ∀ i j, i < j → j < k → gs i ≠ gs j

end Go.Proofs.YtihjdggmmmlpkaaDoor.pf
