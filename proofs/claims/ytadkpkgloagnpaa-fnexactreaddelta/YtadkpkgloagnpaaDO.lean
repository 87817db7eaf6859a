import Derived.Test.YtadkpkgloagnpaaDM
import Derived.Lib.Hide
namespace Go.Proofs.Ytadkpkgloagnpaa.dl
open Go.ChangeShapes Go.WideShapes Go.ChangeAt Go.RowKit Go.Deep
set_option linter.unusedVariables false
set_option linter.unusedSimpArgs false

/-! ### Steps: copies of lists that came in; lists that can be written into -/

theorem infoS : (Try.prog.info? 45).map (fun i => (i.zero, i.size, i.bytes)) = some (some (.agg #[.int .i64 0, .int .i64 0, .int .i64 0, .slice none 0 0]), 4, 48) := by kernel_rfl

theorem makeN {P : Program} (t e : TypeId) (z : Value) (sz bytes : Nat) (ht : P.underlying t = some (.slice e)) (hinfo : (P.info? e).map (fun i => (i.zero, i.size, i.bytes)) = some (some z, sz, bytes))
    (kl kc : IntKind) (n : Nat) (hbytes : bytes * n ≤ 281474976710656) (h63 : n ≤ 9223372036854775807) (w : World) :
    (Instr.makeSlice t (.int kl (n : Int)) (.int kc (n : Int))).run P w = .ok (.slice (some ⟨w.heap.size, 0, none⟩) n n) (w.alloc (.cells (madeCells z.cells (n * sz)) e)) := by
  obtain ⟨i, hi, hzz⟩ := Option.map_eq_some_iff.1 hinfo
  simp only [Prod.mk.injEq] at hzz
  obtain ⟨hz, hs, hb⟩ := hzz
  have hb' : (i.bytes : Int) * (n : Int) ≤ 281474976710656 := by
    have h : ((i.bytes * n : Nat) : Int) ≤ 281474976710656 := by rw [hb]; omega
    rwa [Int.natCast_mul] at h
  have hr := run_make (P := P) w t e i z ht hi hz kl kc n n (by omega) (Int.le_refl _) hb' (by omega)
  simp only [Int.toNat_natCast, hs] at hr
  exact hr

theorem rowIs_madeN (w : World) (z : Array Value) (n sz : Nat) (t : TypeId) (hz : z.size = sz) (hs : 0 < sz) : (w.alloc (.cells (madeCells z (n * sz)) t)).rowIs w.heap.size t (n * sz) (fun j => z[j % sz]!) :=
  ⟨_, blk_alloc_new _ _, size_madeCells _ _, fun i hi => by simp [madeCells, hi, hz]⟩

/-- Bytes in a row that can be written into. -/
structure OwB (w : World) (g : Nat) (l : List UInt8) : Prop where
  lt : g < w.heap.size
  cells : ∀ j (h : j < l.length), w.cell? ⟨g, j, none⟩ = some (.int .u8 (l[j].toNat : Int))
  free : ∀ j, j < l.length → w.frozen? ⟨g, j, none⟩ = false

theorem OwB.kept {w w' : World} {g : Nat} {l : List UInt8} (h : OwB w g l) (hs : w.heap.size ≤ w'.heap.size) (hb : w'.heap[g]? = w.heap[g]?) : OwB w' g l :=
  ⟨Nat.lt_of_lt_of_le h.lt hs, fun j hj => (World.cell?_of_block (a := ⟨g, j, none⟩) hb).trans (h.cells j hj), fun j hj => (World.frozen?_of_block (a := ⟨g, j, none⟩) hb).trans (h.free j hj)⟩
theorem OwB.src {w : World} {g : Nat} {l : List UInt8} (h : OwB w g l) : SrcD w (some ⟨g, 0, none⟩) l := srcD_of (.inr ⟨g, 0, rfl, fun i hi => by rw [Nat.zero_add]; exact h.cells i hi⟩)
theorem owB_row {w : World} {g : Nat} {l : List UInt8} (h : w.rowIs g 5 l.length (fun i => .int .u8 ((inB l)[i]?.getD 0))) : OwB w g l :=
  ⟨h.lt, fun j hj => by rw [h.cell hj, inB_at l j hj], fun j hj => h.frozen j⟩

/-- A list of steps that can be written into, all of it in blocks from lo on and below hi. -/
structure OwS (lo hi : Nat) (w : World) (b : Nat) (gs : Nat → Nat) (ss : List Sp) : Prop where
  blo : lo ≤ b
  bhi : b < hi
  hi_le : hi ≤ w.heap.size
  row : ∃ N f, ss.length * 4 ≤ N ∧ w.rowIs b 45 N f
  ent : ∀ (i : Nat) (x : Sp), ss[i]? = some x → ∃ a c, w.cell? ⟨b, i * 4, none⟩ = some (.int .i64 x.k) ∧ w.cell? ⟨b, i * 4 + 1, none⟩ = some (.int .i64 x.p) ∧ w.cell? ⟨b, i * 4 + 2, none⟩ = some (.int .i64 x.n) ∧ w.cell? ⟨b, i * 4 + 3, none⟩ = some (.slice a x.d.length c) ∧ (x.d = [] ∨ a = some ⟨gs i, 0, none⟩ ∧ OwB w (gs i) x.d)
  rng : ∀ (i : Nat) (x : Sp), ss[i]? = some x → x.d ≠ [] → lo ≤ gs i ∧ gs i < hi ∧ gs i ≠ b
  inj : ∀ (i j : Nat) (x y : Sp), i < j → ss[i]? = some x → ss[j]? = some y → x.d ≠ [] → y.d ≠ [] → gs i ≠ gs j

theorem OwS.kept {lo hi : Nat} {w w' : World} {b : Nat} {gs : Nat → Nat} {ss : List Sp} (h : OwS lo hi w b gs ss) (hs : w.heap.size ≤ w'.heap.size) (hk : ∀ k, lo ≤ k → k < hi → w'.heap[k]? = w.heap[k]?) : OwS lo hi w' b gs ss := by
  obtain ⟨h1, h2, h3, ⟨N, f, hN, hr⟩, h5, h6, h7⟩ := h
  have hb := hk b h1 h2
  have k : ∀ o, w'.cell? ⟨b, o, none⟩ = w.cell? ⟨b, o, none⟩ := fun o => World.cell?_of_block (a := ⟨b, o, none⟩) hb
  refine ⟨h1, h2, by omega, ⟨N, f, hN, hr.of_block hb⟩, fun i x hx => ?_, h6, h7⟩
  obtain ⟨a, c, c0, c1, c2, c3, c4⟩ := h5 i x hx
  refine ⟨a, c, (k _).trans c0, (k _).trans c1, (k _).trans c2, (k _).trans c3, ?_⟩
  by_cases he : x.d = []
  · exact .inl he
  · obtain ⟨e1, e2⟩ := c4.resolve_left he
    exact .inr ⟨e1, e2.kept hs (hk _ (h6 i x hx he).1 (h6 i x hx he).2.1)⟩
theorem OwS.below {lo hi : Nat} {w w' : World} {b : Nat} {gs : Nat → Nat} {ss : List Sp} (h : OwS lo hi w b gs ss) (hb : Below w.heap.size w w') : OwS lo hi w' b gs ss :=
  h.kept hb.size (fun k _ hk => hb.block k (Nat.lt_of_lt_of_le hk h.hi_le))
theorem OwS.src {lo hi : Nat} {w : World} {b : Nat} {gs : Nat → Nat} {ss : List Sp} (h : OwS lo hi w b gs ss) : SrcS w (some ⟨b, 0, none⟩) ss :=
  .inr ⟨b, 0, rfl, fun i x hx => by
    obtain ⟨a, c, c0, c1, c2, c3, c4⟩ := h.ent i x hx
    rw [Nat.zero_add]
    refine ⟨a, c, c0, c1, c2, c3, ?_⟩
    rcases c4 with e | ⟨rfl, e⟩
    · exact srcD_of (.inl e)
    · exact e.src⟩

theorem ret_cellS {fn : Func} {i : Tmp} (hf : fn.results = #[.cell i 45]) {tmps : Array Value} {W : World} {b : Nat} {v0 v1 v2 v3 : Value} {R : Ending → World → Prop} (h4 : tmps.getD i undef = .pointer (some ⟨b, 0, none⟩))
    (k0 : W.cell? ⟨b, 0, none⟩ = some v0) (k1 : W.cell? ⟨b, 1, none⟩ = some v1) (k2 : W.cell? ⟨b, 2, none⟩ = some v2) (k3 : W.cell? ⟨b, 3, none⟩ = some v3) (hR : R (.returned (.agg #[v0, v1, v2, v3])) W) :
    bodyPost Try.prog fn R Exit.ret { tmps := tmps, defers := [] } W := by
  have h4' : tmps[i]?.getD undef = .pointer (some ⟨b, 0, none⟩) := by simpa using h4
  exact bodyPost_ret (v := .agg #[v0, v1, v2, v3]) (by simp [results, hf, go_sem, h4', k0, k1, k2, k3]) rfl hR

theorem blk_oth {w : World} {b c i : Nat} {v : Value} (h : c ≠ b) : (w.setCell ⟨b, i, none⟩ v).heap[c]? = w.heap[c]? := by
  simp only [World.setCell]
  rw [Array.getElem?_modify, if_neg (fun e => h e.symm)]

theorem far {w : World} {b c i j : Nat} {v : Value} (h : b ≠ c) : (w.setCell ⟨b, i, none⟩ v).cell? ⟨c, j, none⟩ = w.cell? ⟨c, j, none⟩ := World.cell?_of_block (a := ⟨c, j, none⟩) (blk_oth (fun e => h e.symm))
theorem oth {X : World} {b i j : Nat} {v : Value} (h : i ≠ j) : (X.setCell ⟨b, i, none⟩ v).cell? ⟨b, j, none⟩ = X.cell? ⟨b, j, none⟩ := World.cell?_setCell_other X ⟨b, i, none⟩ ⟨b, j, none⟩ v (by simp [h])

/-- Four cells stored one behind the other are there. -/
theorem four {W : World} {b : Nat} {u0 u1 u2 u3 v0 v1 v2 v3 : Value} (h0 : W.cell? ⟨b, 0, none⟩ = some u0) (h1 : W.cell? ⟨b, 1, none⟩ = some u1) (h2 : W.cell? ⟨b, 2, none⟩ = some u2) (h3 : W.cell? ⟨b, 3, none⟩ = some u3) :
    let X := ((((W.setCell ⟨b, 0, none⟩ v0).setCell ⟨b, 1, none⟩ v1).setCell ⟨b, 2, none⟩ v2).setCell ⟨b, 3, none⟩ v3)
    X.cell? ⟨b, 0, none⟩ = some v0 ∧ X.cell? ⟨b, 1, none⟩ = some v1 ∧ X.cell? ⟨b, 2, none⟩ = some v2 ∧ X.cell? ⟨b, 3, none⟩ = some v3 := by
  refine ⟨?_, ?_, ?_, ?_⟩
  · rw [oth (by omega), oth (by omega), oth (by omega)]
    exact World.cell?_setCell_same _ _ _ h0
  · rw [oth (by omega), oth (by omega)]
    exact World.cell?_setCell_same _ _ _ ((oth (by omega)).trans h1)
  · rw [oth (by omega)]
    exact World.cell?_setCell_same _ _ _ ((oth (by omega)).trans ((oth (by omega)).trans h2))
  · exact World.cell?_setCell_same _ _ _ ((oth (by omega)).trans ((oth (by omega)).trans ((oth (by omega)).trans h3)))

set_option maxRecDepth 100000 in
theorem toS1_any (k p n : Int) (a : Option Addr) (cap : Nat) (l : List UInt8) (w : World) (hb : SrcD w a l) (hn : l.length ≤ 1048576) :
    Calls Try.prog 29 #[.agg #[.int .i64 k, .int .i64 p, .int .i64 n, .slice a l.length cap]] w fun e w' => (∃ g, e = .returned (.agg #[.int .i64 k, .int .i64 p, .int .i64 n, .slice (some ⟨g, 0, none⟩) l.length l.length]) ∧ w.heap.size ≤ g ∧ OwB w' g l) ∧ Below w.heap.size w w' := by
  have HTO : Hid (∀ W, Below w.heap.size w W → Calls Try.prog 10 #[.slice a l.length cap] W fun e w' => e = .returned (.slice (some ⟨W.heap.size, 0, none⟩) l.length l.length) ∧ w'.rowIs W.heap.size 5 l.length (fun i => .int .u8 ((inB l)[i]?.getD 0)) ∧ Below W.heap.size W w') := fun W h => sm.to_any a l.length cap (inB l) W (hb.below h) (by omega)
  clear hb
  go_enter Try.func29, Try.ntmps29
  go_wp2_with (go_at_call 10; refine (HTO.out _ ((((Below.refl _ _).alloc (Nat.le_refl _) _).alloc (by simp) _).alloc (by simp; omega) _)).mono ?_; rintro e w1 ⟨rfl, hrow, hl1⟩; obtain ⟨k1, k2⟩ := bcell hl1; refine Hid.out ?_)
  refine Lib.hid ?_
  have c0 : w1.cell? ⟨w.heap.size + 1 + 1, 0, none⟩ = some (.int .i64 k) := (k1 _ _ (by simp)).trans (by simp [go_sem])
  have c1 : w1.cell? ⟨w.heap.size + 1 + 1, 1, none⟩ = some (.int .i64 p) := (k1 _ _ (by simp)).trans (by simp [go_sem])
  have c2 : w1.cell? ⟨w.heap.size + 1 + 1, 2, none⟩ = some (.int .i64 n) := (k1 _ _ (by simp)).trans (by simp [go_sem])
  have c3 : w1.cell? ⟨w.heap.size + 1 + 1, 3, none⟩ = some (.slice none 0 0) := (k1 _ _ (by simp)).trans (by simp [go_sem])
  have d0 : w1.cell? ⟨w.heap.size + 1, 0, none⟩ = some (.int .i64 0) := (k1 _ _ (by simp)).trans (by simp [go_sem])
  have d1 : w1.cell? ⟨w.heap.size + 1, 1, none⟩ = some (.int .i64 0) := (k1 _ _ (by simp)).trans (by simp [go_sem])
  have d2 : w1.cell? ⟨w.heap.size + 1, 2, none⟩ = some (.int .i64 0) := (k1 _ _ (by simp)).trans (by simp [go_sem])
  have d3 : w1.cell? ⟨w.heap.size + 1, 3, none⟩ = some (.slice none 0 0) := (k1 _ _ (by simp)).trans (by simp [go_sem])
  have f0 : ∀ o, w1.frozen? ⟨w.heap.size + 1 + 1, o, none⟩ = false := fun o => (k2 _ _ (by simp)).trans (by simp [go_sem])
  have f1 : ∀ o, w1.frozen? ⟨w.heap.size + 1, o, none⟩ = false := fun o => (k2 _ _ (by simp)).trans (by simp [go_sem])
  have HRW : Hid (OwB w1 (w.heap.size + 1 + 1 + 1) l) := by
    have := owB_row hrow
    simp at this
    exact this
  have HBL : Hid (Below w.heap.size w w1) := ((((Below.refl _ _).alloc (Nat.le_refl _) _).alloc (by simp) _).alloc (by simp; omega) _).trans (hl1.mono (by simp; omega))
  clear hrow hl1 k1 k2
  go_wp2
  obtain ⟨t0, t1, t2, t3⟩ := four (v0 := .int .i64 k) (v1 := .int .i64 p) (v2 := .int .i64 n) (v3 := .slice (some ⟨w.heap.size + 1 + 1 + 1, 0, none⟩) l.length l.length) ((far (i := 3) (v := .slice (some ⟨w.heap.size + 1 + 1 + 1, 0, none⟩) l.length l.length) (by omega)).trans d0) ((far (b := w.heap.size + 1 + 1) (by omega)).trans d1) ((far (b := w.heap.size + 1 + 1) (by omega)).trans d2) ((far (b := w.heap.size + 1 + 1) (by omega)).trans d3)
  refine ret_cellS Try.results29 rfl t0 t1 t2 t3 ⟨⟨_, rfl, by omega, ?_⟩, ?_⟩
  · exact HRW.out.kept (by simp) (by rw [blk_oth (by omega), blk_oth (by omega), blk_oth (by omega), blk_oth (by omega), blk_oth (by omega)])
  · exact ((((HBL.out.setCell (show w.heap.size ≤ w.heap.size + 1 + 1 by omega) _).setCell (show w.heap.size ≤ w.heap.size + 1 by omega) _).setCell (show w.heap.size ≤ w.heap.size + 1 by omega) _).setCell (show w.heap.size ≤ w.heap.size + 1 by omega) _).setCell (show w.heap.size ≤ w.heap.size + 1 by omega) _

/-- What has been copied of a list of steps. -/
structure CopS (w : World) (b k : Nat) (f : Nat → Value) (gs : Nat → Nat) (ss : List Sp) : Prop where
  ent : ∀ (i : Nat) (x : Sp), i < k → ss[i]? = some x → f (i * 4) = .int .i64 x.k ∧ f (i * 4 + 1) = .int .i64 x.p ∧ f (i * 4 + 2) = .int .i64 x.n ∧ f (i * 4 + 3) = .slice (some ⟨gs i, 0, none⟩) x.d.length x.d.length ∧ OwB w (gs i) x.d ∧ b < gs i
  inj : ∀ i j, i < j → j < k → gs i ≠ gs j

set_option maxRecDepth 100000 in
set_option maxHeartbeats 1000000 in
theorem toS_any (a : Option Addr) (cap : Nat) (ss : List Sp) (w : World) (hb : SrcS w a ss) (hw : wt ss ≤ 1048576) :
    Calls Try.prog 11 #[.slice a ss.length cap] w fun e w' => e = .returned (.slice (some ⟨w.heap.size, 0, none⟩) ss.length ss.length) ∧ (∃ gs, OwS w.heap.size w'.heap.size w' w.heap.size gs ss) ∧ Below w.heap.size w w' := by
  have hn : ss.length ≤ 1048576 := Nat.le_trans (wt_len ss) hw
  have HG : Hid (∀ x ∈ ss, x.d.length ≤ 1048576) := fun x hx => Nat.le_trans (wt_d hx) hw
  have hmk := makeN (P := Try.prog) 28 45 (.agg #[.int .i64 0, .int .i64 0, .int .i64 0, .slice none 0 0]) 4 48 Try.underlying28 infoS .i64 .i64 ss.length (by omega) (by omega)
  clear hw
  go_enter Try.func11, Try.ntmps11
  go_wp2
  clear hmk
  go_loopw [4] (fun i wr => ∃ (k : Nat) (f : Nat → Value) (gs : Nat → Nat), k ≤ ss.length ∧ i = .int .i64 (k : Int) ∧ wr.rowIs w.heap.size 45 (ss.length * 4) f ∧ CopS wr w.heap.size k f gs ss ∧ Below w.heap.size w wr) (fun i _ => ss.length - (intOf i).toNat)
  case atStart =>
    exact ⟨0, _, fun _ => 0, Nat.zero_le _, rfl, rowIs_madeN w #[.int .i64 0, .int .i64 0, .int .i64 0, .slice none 0 0] ss.length 4 45 rfl (by omega), ⟨fun i x h => by omega, fun i j h h2 => by omega⟩, (Below.refl _ _).alloc (Nat.le_refl _) _⟩
  case round =>
    obtain ⟨k, f, gs, hk, rfl, hrow, hcop, hbel⟩ := hrel
    have HCP : Hid (CopS wr w.heap.size k f gs ss) := hcop
    by_cases hlt : k < ss.length
    · rcases hb with rfl | ⟨b, off, rfl, hc⟩
      · simp at hlt
      obtain ⟨x, hx⟩ : ∃ x, ss[k]? = some x := ⟨_, List.getElem?_eq_getElem hlt⟩
      obtain ⟨a', c', g0, g1, g2, g3, hsr⟩ := (hc k x hx).below hbel
      have hki : (k : Int) < (ss.length : Int) := by omega
      have hwl : w.heap.size < wr.heap.size := hrow.lt
      have HTO : Hid (Calls Try.prog 29 #[.agg #[.int .i64 x.k, .int .i64 x.p, .int .i64 x.n, .slice a' x.d.length c']] wr fun e w' => (∃ g, e = .returned (.agg #[.int .i64 x.k, .int .i64 x.p, .int .i64 x.n, .slice (some ⟨g, 0, none⟩) x.d.length x.d.length]) ∧ wr.heap.size ≤ g ∧ OwB w' g x.d) ∧ Below wr.heap.size wr w') := toS1_any x.k x.p x.n a' c' x.d wr hsr (HG.out x (List.mem_of_getElem? hx))
      have HX : Hid (ss[k]? = some x) := hx
      obtain ⟨z0, hz0⟩ : ∃ z, x.k = z := ⟨_, rfl⟩
      obtain ⟨z1, hz1⟩ : ∃ z, x.p = z := ⟨_, rfl⟩
      obtain ⟨z2, hz2⟩ : ∃ z, x.n = z := ⟨_, rfl⟩
      obtain ⟨m, hm⟩ : ∃ z, x.d.length = z := ⟨_, rfl⟩
      rw [hz0] at g0 HTO
      rw [hz1] at g1 HTO
      rw [hz2] at g2 HTO
      rw [hm] at g3 HTO
      have HE : Hid (x.k = z0 ∧ x.p = z1 ∧ x.n = z2 ∧ x.d.length = m) := ⟨hz0, hz1, hz2, hm⟩
      clear hc hx hsr hcop hz0 hz1 hz2 hm
      go_wp2_with (go_at_call 29; refine HTO.out.mono ?_; rintro e w1 ⟨⟨g, rfl, hgl, hog⟩, hl1⟩; have hrow1 := hrow.of_block (hl1.block _ hwl); have r0 := hrow1.cell (i := k * 4) (by omega); have r1 := hrow1.cell (i := k * 4 + 1) (by omega); have r2 := hrow1.cell (i := k * 4 + 2) (by omega); have r3 := hrow1.cell (i := k * 4 + 3) (by omega); have f0 := hrow1.frozen (k * 4); have f1 := hrow1.frozen (k * 4 + 1); have f2 := hrow1.frozen (k * 4 + 2); have f3 := hrow1.frozen (k * 4 + 3))
      go_roundw
      case rel =>
        obtain ⟨hz0, hz1, hz2, hm⟩ := HE.out
        refine ⟨k + 1, _, fun i => if i = k then g else gs i, by omega, by go_num, (((hrow1.set (k * 4) _).set (k * 4 + 1) _).set (k * 4 + 2) _).set (k * 4 + 3) _, ⟨fun i y hi hy => ?_, fun i j hij hj => ?_⟩, ((((hbel.trans (hl1.mono hbel.size)).setCell (Nat.le_refl _) _).setCell (Nat.le_refl _) _).setCell (Nat.le_refl _) _).setCell (Nat.le_refl _) _⟩
        · by_cases he : i = k
          · subst he
            rw [HX.out] at hy
            obtain rfl := Option.some.inj hy
            rw [hz0, hz1, hz2, hm]
            refine ⟨by simp, by simp, by simp, by simp, ?_, ?_⟩
            · rw [if_pos rfl]
              exact hog.kept (by simp) (by rw [blk_oth (by omega), blk_oth (by omega), blk_oth (by omega), blk_oth (by omega)])
            · rw [if_pos rfl]; omega
          · obtain ⟨q0, q1, q2, q3, q4, q5⟩ := HCP.out.ent i y (by omega) hy
            refine ⟨?_, ?_, ?_, ?_, ?_, ?_⟩
            · rw [if_neg (by omega), if_neg (by omega), if_neg (by omega), if_neg (by omega), q0]
            · rw [if_neg (by omega), if_neg (by omega), if_neg (by omega), if_neg (by omega), q1]
            · rw [if_neg (by omega), if_neg (by omega), if_neg (by omega), if_neg (by omega), q2]
            · rw [if_neg (by omega), if_neg (by omega), if_neg (by omega), if_neg (by omega), q3, if_neg he]
            · rw [if_neg he]
              exact (q4.kept hl1.size (hl1.block _ q4.lt)).kept (by simp) (by rw [blk_oth (by omega), blk_oth (by omega), blk_oth (by omega), blk_oth (by omega)])
            · rw [if_neg he]; exact q5
        · show (if i = k then g else gs i) ≠ (if j = k then g else gs j)
          rw [if_neg (by omega)]
          by_cases he : j = k
          · rw [if_pos he]
            obtain ⟨y, hy⟩ : ∃ y, ss[i]? = some y := ⟨_, List.getElem?_eq_getElem (by omega)⟩
            have := (HCP.out.ent i y (by omega) hy).2.2.2.2.1.lt
            omega
          · rw [if_neg he]
            exact HCP.out.inj i j hij (by omega)
      case measure => simp [intOf]; omega
    · have hki : ¬ (k : Int) < (ss.length : Int) := by omega
      obtain rfl : k = ss.length := by omega
      go_wp2
      go_ret
      refine ⟨rfl, ⟨gs, ⟨Nat.le_refl _, hrow.lt, Nat.le_refl _, ⟨_, f, Nat.le_refl _, hrow⟩, fun i x hx => ?_, fun i x hx _ => ?_, fun i j x y hij _ hy _ _ => HCP.out.inj i j hij (List.getElem?_eq_some_iff.1 hy).1⟩⟩, hbel⟩
      · have hi := (List.getElem?_eq_some_iff.1 hx).1
        obtain ⟨q0, q1, q2, q3, q4, q5⟩ := HCP.out.ent i x hi hx
        exact ⟨_, x.d.length, by rw [hrow.cell (by omega), q0], by rw [hrow.cell (by omega), q1], by rw [hrow.cell (by omega), q2], by rw [hrow.cell (by omega), q3], .inr ⟨rfl, q4⟩⟩
      · have hi := (List.getElem?_eq_some_iff.1 hx).1
        obtain ⟨q0, q1, q2, q3, q4, q5⟩ := HCP.out.ent i x hi hx
        exact ⟨by omega, q4.lt, by omega⟩

end Go.Proofs.Ytadkpkgloagnpaa.dl
