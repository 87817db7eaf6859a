import Derived.Test.YtogakignaaoklaaDM
import Derived.Lib.Hide
namespace Go.Proofs.Ytogakignaaoklaa.dl
open Go.ChangeShapes Go.WideShapes Go.ChangeAt Go.RowKit Go.Deep
set_option linter.unusedVariables false
set_option linter.unusedSimpArgs false

/-! ### Steps: copies of lists that came in; lists that can be written into -/

theorem infoS : (Try.prog.info? 41).map (fun i => (i.zero, i.size, i.bytes)) = some (some (.agg #[.int .i64 0, .int .i64 0, .int .i64 0, .slice none 0 0]), 4, 48) := by kernel_rfl

theorem makeN {P : Program} (t e : TypeId) (z : Value) (sz bytes : Nat) (ht : P.underlying t = some (.slice e)) (hinfo : (P.info? e).map (fun i => (i.zero, i.size, i.bytes)) = some (some z, sz, bytes))
    (kl kc : IntKind) (n : Nat) (hbytes : bytes * n ≤ 281474976710656) (h63 : n ≤ 9223372036854775807) (w : World) :
    (Instr.makeSlice t (.int kl (n : Int)) (.int kc (n : Int))).run P w = .ok (.slice (some ⟨w.heap.size, 0, none⟩) n n) (w.alloc (.cells (madeCells z.cells (n * sz)) e)) := by
  obtain ⟨i, hi, hzz⟩ := Option.map_eq_some_iff.1 hinfo
  simp only [Prod.mk.injEq] at hzz
  obtain ⟨hz, hs, hb⟩ := hzz
  have hb' : (i.bytes : Int) * (n : Int) ≤ 281474976710656 := by
    have h : ((i.bytes * n : Nat) : Int) ≤ 281474976710656 := by rw [hb]; omega
    rwa [Int.natCast_mul] at h
  have hr := run_make (P := P) w t e i z ht hi hz kl kc n n (by omega) (Int.le_refl _) hb' (by omega)
  simp only [Int.toNat_natCast, hs] at hr
  exact hr

theorem rowIs_madeN (w : World) (z : Array Value) (n sz : Nat) (t : TypeId) (hz : z.size = sz) (hs : 0 < sz) : (w.alloc (.cells (madeCells z (n * sz)) t)).rowIs w.heap.size t (n * sz) (fun j => z[j % sz]!) :=
  ⟨_, blk_alloc_new _ _, size_madeCells _ _, fun i hi => by simp [madeCells, hi, hz]⟩

/-- Bytes in a row that can be written into. -/
structure OwB (w : World) (g : Nat) (l : List UInt8) : Prop where
  lt : g < w.heap.size
  cells : ∀ j (h : j < l.length), w.cell? ⟨g, j, none⟩ = some (.int .u8 (l[j].toNat : Int))
  free : ∀ j, j < l.length → w.frozen? ⟨g, j, none⟩ = false

theorem OwB.kept {w w' : World} {g : Nat} {l : List UInt8} (h : OwB w g l) (hs : w.heap.size ≤ w'.heap.size) (hb : w'.heap[g]? = w.heap[g]?) : OwB w' g l :=
  ⟨Nat.lt_of_lt_of_le h.lt hs, fun j hj => (World.cell?_of_block (a := ⟨g, j, none⟩) hb).trans (h.cells j hj), fun j hj => (World.frozen?_of_block (a := ⟨g, j, none⟩) hb).trans (h.free j hj)⟩
theorem OwB.src {w : World} {g : Nat} {l : List UInt8} (h : OwB w g l) : SrcD w (some ⟨g, 0, none⟩) l := srcD_of (.inr ⟨g, 0, rfl, fun i hi => by rw [Nat.zero_add]; exact h.cells i hi⟩)
theorem owB_row {w : World} {g : Nat} {l : List UInt8} (h : w.rowIs g 5 l.length (fun i => .int .u8 ((inB l)[i]?.getD 0))) : OwB w g l :=
  ⟨h.lt, fun j hj => by rw [h.cell hj, inB_at l j hj], fun j hj => h.frozen j⟩

/-- A list of steps that can be written into, all of it in blocks from lo on and below hi. -/
structure OwS (lo hi : Nat) (w : World) (b : Nat) (gs : Nat → Nat) (ss : List Sp) : Prop where
  blo : lo ≤ b
  bhi : b < hi
  hi_le : hi ≤ w.heap.size
  row : ∃ N f, ss.length * 4 ≤ N ∧ w.rowIs b 41 N f
  ent : ∀ (i : Nat) (x : Sp), ss[i]? = some x → ∃ a c, w.cell? ⟨b, i * 4, none⟩ = some (.int .i64 x.k) ∧ w.cell? ⟨b, i * 4 + 1, none⟩ = some (.int .i64 x.p) ∧ w.cell? ⟨b, i * 4 + 2, none⟩ = some (.int .i64 x.n) ∧ w.cell? ⟨b, i * 4 + 3, none⟩ = some (.slice a x.d.length c) ∧ (x.d = [] ∨ a = some ⟨gs i, 0, none⟩ ∧ OwB w (gs i) x.d)
  rng : ∀ (i : Nat) (x : Sp), ss[i]? = some x → x.d ≠ [] → lo ≤ gs i ∧ gs i < hi ∧ gs i ≠ b
  inj : ∀ (i j : Nat) (x y : Sp), i < j → ss[i]? = some x → ss[j]? = some y → x.d ≠ [] → y.d ≠ [] → gs i ≠ gs j

theorem OwS.kept {lo hi : Nat} {w w' : World} {b : Nat} {gs : Nat → Nat} {ss : List Sp} (h : OwS lo hi w b gs ss) (hs : w.heap.size ≤ w'.heap.size) (hk : ∀ k, lo ≤ k → k < hi → w'.heap[k]? = w.heap[k]?) : OwS lo hi w' b gs ss := by
  obtain ⟨h1, h2, h3, ⟨N, f, hN, hr⟩, h5, h6, h7⟩ := h
  have hb := hk b h1 h2
  have k : ∀ o, w'.cell? ⟨b, o, none⟩ = w.cell? ⟨b, o, none⟩ := fun o => World.cell?_of_block (a := ⟨b, o, none⟩) hb
  refine ⟨h1, h2, by omega, ⟨N, f, hN, hr.of_block hb⟩, fun i x hx => ?_, h6, h7⟩
  obtain ⟨a, c, c0, c1, c2, c3, c4⟩ := h5 i x hx
  refine ⟨a, c, (k _).trans c0, (k _).trans c1, (k _).trans c2, (k _).trans c3, ?_⟩
  by_cases he : x.d = []
  · exact .inl he
  · obtain ⟨e1, e2⟩ := c4.resolve_left he
    exact .inr ⟨e1, e2.kept hs (hk _ (h6 i x hx he).1 (h6 i x hx he).2.1)⟩
theorem OwS.below {lo hi : Nat} {w w' : World} {b : Nat} {gs : Nat → Nat} {ss : List Sp} (h : OwS lo hi w b gs ss) (hb : Below w.heap.size w w') : OwS lo hi w' b gs ss :=
  h.kept hb.size (fun k _ hk => hb.block k (Nat.lt_of_lt_of_le hk h.hi_le))
theorem OwS.src {lo hi : Nat} {w : World} {b : Nat} {gs : Nat → Nat} {ss : List Sp} (h : OwS lo hi w b gs ss) : SrcS w (some ⟨b, 0, none⟩) ss :=
  .inr ⟨b, 0, rfl, fun i x hx => by
    obtain ⟨a, c, c0, c1, c2, c3, c4⟩ := h.ent i x hx
    rw [Nat.zero_add]
    refine ⟨a, c, c0, c1, c2, c3, ?_⟩
    rcases c4 with e | ⟨rfl, e⟩
    · exact srcD_of (.inl e)
    · exact e.src⟩

theorem ret_cellS {fn : Func} {i : Tmp} (hf : fn.results = #[.cell i 41]) {tmps : Array Value} {W : World} {b : Nat} {v0 v1 v2 v3 : Value} {R : Ending → World → Prop} (h4 : tmps.getD i undef = .pointer (some ⟨b, 0, none⟩))
    (k0 : W.cell? ⟨b, 0, none⟩ = some v0) (k1 : W.cell? ⟨b, 1, none⟩ = some v1) (k2 : W.cell? ⟨b, 2, none⟩ = some v2) (k3 : W.cell? ⟨b, 3, none⟩ = some v3) (hR : R (.returned (.agg #[v0, v1, v2, v3])) W) :
    bodyPost Try.prog fn R Exit.ret { tmps := tmps, defers := [] } W := by
  have h4' : tmps[i]?.getD undef = .pointer (some ⟨b, 0, none⟩) := by simpa using h4
  exact bodyPost_ret (v := .agg #[v0, v1, v2, v3]) (by simp [results, hf, go_sem, h4', k0, k1, k2, k3]) rfl hR

theorem blk_oth {w : World} {b c i : Nat} {v : Value} (h : c ≠ b) : (w.setCell ⟨b, i, none⟩ v).heap[c]? = w.heap[c]? := by
  simp only [World.setCell]
  rw [Array.getElem?_modify, if_neg (fun e => h e.symm)]

theorem far {w : World} {b c i j : Nat} {v : Value} (h : b ≠ c) : (w.setCell ⟨b, i, none⟩ v).cell? ⟨c, j, none⟩ = w.cell? ⟨c, j, none⟩ := World.cell?_of_block (a := ⟨c, j, none⟩) (blk_oth (fun e => h e.symm))
theorem oth {X : World} {b i j : Nat} {v : Value} (h : i ≠ j) : (X.setCell ⟨b, i, none⟩ v).cell? ⟨b, j, none⟩ = X.cell? ⟨b, j, none⟩ := World.cell?_setCell_other X ⟨b, i, none⟩ ⟨b, j, none⟩ v (by simp [h])

/-- Four cells stored one behind the other are there. -/
theorem four {W : World} {b : Nat} {u0 u1 u2 u3 v0 v1 v2 v3 : Value} (h0 : W.cell? ⟨b, 0, none⟩ = some u0) (h1 : W.cell? ⟨b, 1, none⟩ = some u1) (h2 : W.cell? ⟨b, 2, none⟩ = some u2) (h3 : W.cell? ⟨b, 3, none⟩ = some u3) :
    let X := ((((W.setCell ⟨b, 0, none⟩ v0).setCell ⟨b, 1, none⟩ v1).setCell ⟨b, 2, none⟩ v2).setCell ⟨b, 3, none⟩ v3)
    X.cell? ⟨b, 0, none⟩ = some v0 ∧ X.cell? ⟨b, 1, none⟩ = some v1 ∧ X.cell? ⟨b, 2, none⟩ = some v2 ∧ X.cell? ⟨b, 3, none⟩ = some v3 := by
  refine ⟨?_, ?_, ?_, ?_⟩
  · rw [oth (by omega), oth (by omega), oth (by omega)]
    exact World.cell?_setCell_same _ _ _ h0
  · rw [oth (by omega), oth (by omega)]
    exact World.cell?_setCell_same _ _ _ ((oth (by omega)).trans h1)
  · rw [oth (by omega)]
    exact World.cell?_setCell_same _ _ _ ((oth (by omega)).trans ((oth (by omega)).trans h2))
  · exact World.cell?_setCell_same _ _ _ ((oth (by omega)).trans ((oth (by omega)).trans ((oth (by omega)).trans h3)))

/-- What has been copied of a list of steps. -/
structure CopS (w : World) (b k : Nat) (f : Nat → Value) (gs : Nat → Nat) (ss : List Sp) : Prop where
  ent : ∀ (i : Nat) (x : Sp), i < k → ss[i]? = some x → f (i * 4) = .int .i64 x.k ∧ f (i * 4 + 1) = .int .i64 x.p ∧ f (i * 4 + 2) = .int .i64 x.n ∧ f (i * 4 + 3) = .slice (some ⟨gs i, 0, none⟩) x.d.length x.d.length ∧ OwB w (gs i) x.d ∧ b < gs i
  inj : ∀ i j, i < j → j < k → gs i ≠ gs j

end Go.Proofs.Ytogakignaaoklaa.dl
