import Derived.Test.YtoaccaiddifliaaDoorPM
import Derived.Lib.Hide
namespace Go.Proofs.YtoaccaiddifliaaDoor.pf
open Go.ChangeShapes Go.WideShapes Go.ChangeAt Go.RowKit Go.Deep
set_option linter.unusedVariables false
set_option linter.unusedSimpArgs false

/-! ### Profiles: copies of lists that came in; lists that can be written into -/

theorem infoG : (Tryd.prog.info? 43).map (fun i => (i.zero, i.size, i.bytes)) = some (some (.agg #[.int .i64 0, .string ⟨#[]⟩]), 2, 24) := by kernel_rfl
theorem infoP : (Tryd.prog.info? 40).map (fun i => (i.zero, i.size, i.bytes)) = some (some (.agg #[.string ⟨#[]⟩, .int .i64 0, .slice none 0 0]), 3, 48) := by kernel_rfl

theorem makeN {P : Program} (t e : TypeId) (z : Value) (sz bytes : Nat) (ht : P.underlying t = some (.slice e)) (hinfo : (P.info? e).map (fun i => (i.zero, i.size, i.bytes)) = some (some z, sz, bytes))
    (kl kc : IntKind) (n : Nat) (hbytes : bytes * n ≤ 281474976710656) (h63 : n ≤ 9223372036854775807) (w : World) :
    (Instr.makeSlice t (.int kl (n : Int)) (.int kc (n : Int))).run P w = .ok (.slice (some ⟨w.heap.size, 0, none⟩) n n) (w.alloc (.cells (madeCells z.cells (n * sz)) e)) := by
  obtain ⟨i, hi, hzz⟩ := Option.map_eq_some_iff.1 hinfo
  simp only [Prod.mk.injEq] at hzz
  obtain ⟨hz, hs, hb⟩ := hzz
  have hb' : (i.bytes : Int) * (n : Int) ≤ 281474976710656 := by
    have h : ((i.bytes * n : Nat) : Int) ≤ 281474976710656 := by rw [hb]; omega
    rwa [Int.natCast_mul] at h
  have hr := run_make (P := P) w t e i z ht hi hz kl kc n n (by omega) (Int.le_refl _) hb' (by omega)
  simp only [Int.toNat_natCast, hs] at hr
  exact hr

/-- The j-th cell of a row of gens. -/
def cellG (l : List Gn) (j : Nat) : Value := if j % 2 = 0 then .int .i64 (l[j / 2]?.getD default).n else .string (l[j / 2]?.getD default).p
theorem cellG0 {l : List Gn} {k : Nat} {x : Gn} (h : l[k]? = some x) : cellG l (k * 2) = .int .i64 x.n := by
  unfold cellG
  rw [if_pos (by omega), show k * 2 / 2 = k by omega, h]
  rfl
theorem cellG1 {l : List Gn} {k : Nat} {x : Gn} (h : l[k]? = some x) : cellG l (k * 2 + 1) = .string x.p := by
  unfold cellG
  rw [if_neg (by omega), show (k * 2 + 1) / 2 = k by omega, h]
  rfl

theorem mkG_step {w : World} {b e N m : Nat} {f : Nat → Value} {l : List Gn} (h : w.rowIs b e N (fun j => if j < m then cellG l j else f j)) {v : Value} (hv : cellG l m = v) :
    (w.setCell ⟨b, m, none⟩ v).rowIs b e N (fun j => if j < m + 1 then cellG l j else f j) :=
  (h.set m _).congr fun i hi => by
    by_cases h : i = m
    · simp [h, hv]
    · have e : (i < m + 1) ↔ (i < m) := by omega
      simp [h, e]

theorem rowG2 {w : World} {b e N k : Nat} {f : Nat → Value} {l : List Gn} {x : Gn} (hx : l[k]? = some x) (h : w.rowIs b e N (fun j => if j < k * 2 then cellG l j else f j)) :
    ((w.setCell ⟨b, k * 2, none⟩ (.int .i64 x.n)).setCell ⟨b, k * 2 + 1, none⟩ (.string x.p)).rowIs b e N (fun j => if j < (k + 1) * 2 then cellG l j else f j) := by
  have s0 := mkG_step h (cellG0 hx)
  have s1 := mkG_step (m := k * 2 + 1) s0 (cellG1 hx)
  refine s1.congr (fun j hj => ?_)
  rw [show (k + 1) * 2 = k * 2 + 1 + 1 by omega]

theorem rowIs_madeN (w : World) (z : Array Value) (n sz : Nat) (t : TypeId) (hz : z.size = sz) (hs : 0 < sz) : (w.alloc (.cells (madeCells z (n * sz)) t)).rowIs w.heap.size t (n * sz) (fun j => z[j % sz]!) :=
  ⟨_, blk_alloc_new _ _, size_madeCells _ _, fun i hi => by simp [madeCells, hi, hz]⟩

/-- A row of gens that can be written into. -/
def OwG (w : World) (g : Nat) (l : List Gn) : Prop := ∃ N f, l.length * 2 ≤ N ∧ w.rowIs g 43 N f ∧ ∀ (i : Nat) (x : Gn), l[i]? = some x → G2 w g (i * 2) x

theorem OwG.lt {w : World} {g : Nat} {l : List Gn} (h : OwG w g l) : g < w.heap.size := by obtain ⟨N, f, _, hr, _⟩ := h; exact hr.lt
theorem OwG.kept {w w' : World} {g : Nat} {l : List Gn} (h : OwG w g l) (hb : w'.heap[g]? = w.heap[g]?) : OwG w' g l := by
  obtain ⟨N, f, hN, hr, hx⟩ := h
  exact ⟨N, f, hN, hr.of_block hb, fun i x h => (hx i x h).kept hb⟩
theorem OwG.src {w : World} {g : Nat} {l : List Gn} (h : OwG w g l) : SrcG w (some ⟨g, 0, none⟩) l := by
  obtain ⟨N, f, _, _, hx⟩ := h
  exact .inr ⟨g, 0, rfl, fun i x h => by rw [Nat.zero_add]; exact hx i x h⟩
theorem owG_row {w : World} {g N : Nat} {fu : Nat → Value} {l : List Gn} (hr : w.rowIs g 43 N (fun j => if j < l.length * 2 then cellG l j else fu j)) (hN : l.length * 2 ≤ N) : OwG w g l := by
  refine ⟨N, _, hN, hr, fun i x hx => ?_⟩
  have hi := (List.getElem?_eq_some_iff.1 hx).1
  have hc : ∀ j, j < l.length * 2 → w.cell? ⟨g, j, none⟩ = some (cellG l j) := fun j hj => by rw [hr.cell (i := j) (by omega), if_pos hj]
  exact ⟨by rw [hc _ (by omega), cellG0 hx], by rw [hc _ (by omega), cellG1 hx]⟩
theorem owG_row' {w : World} {g : Nat} {l : List Gn} (hr : w.rowIs g 43 (l.length * 2) (cellG l)) : OwG w g l :=
  owG_row (fu := cellG l) (hr.congr fun i hi => by simp) (Nat.le_refl _)

/-- A list of profiles that can be written into, all of it in blocks from lo on and below hi. -/
structure OwP (lo hi : Nat) (w : World) (b : Nat) (gs : Nat → Nat) (ps : List Pr) : Prop where
  blo : lo ≤ b
  bhi : b < hi
  hi_le : hi ≤ w.heap.size
  row : ∃ N f, ps.length * 3 ≤ N ∧ w.rowIs b 40 N f
  ent : ∀ (i : Nat) (x : Pr), ps[i]? = some x → ∃ c, x.gens.length ≤ c ∧ w.cell? ⟨b, i * 3, none⟩ = some (.string x.name) ∧ w.cell? ⟨b, i * 3 + 1, none⟩ = some (.int .i64 x.now) ∧ w.cell? ⟨b, i * 3 + 2, none⟩ = some (.slice (some ⟨gs i, 0, none⟩) x.gens.length c) ∧ OwG w (gs i) x.gens
  rng : ∀ i, i < ps.length → lo ≤ gs i ∧ gs i < hi ∧ gs i ≠ b
  inj : ∀ i j, i < j → j < ps.length → gs i ≠ gs j

theorem OwP.kept {lo hi : Nat} {w w' : World} {b : Nat} {gs : Nat → Nat} {ps : List Pr} (h : OwP lo hi w b gs ps) (hs : w.heap.size ≤ w'.heap.size) (hk : ∀ k, lo ≤ k → k < hi → w'.heap[k]? = w.heap[k]?) : OwP lo hi w' b gs ps := by
  obtain ⟨h1, h2, h3, ⟨N, f, hN, hr⟩, h5, h6, h7⟩ := h
  have hb := hk b h1 h2
  have k : ∀ o, w'.cell? ⟨b, o, none⟩ = w.cell? ⟨b, o, none⟩ := fun o => World.cell?_of_block (a := ⟨b, o, none⟩) hb
  refine ⟨h1, h2, by omega, ⟨N, f, hN, hr.of_block hb⟩, fun i x hx => ?_, h6, h7⟩
  obtain ⟨c, c0, c1, c2, c3, c4⟩ := h5 i x hx
  have hi' := (List.getElem?_eq_some_iff.1 hx).1
  exact ⟨c, c0, (k _).trans c1, (k _).trans c2, (k _).trans c3, c4.kept (hk _ (h6 i hi').1 (h6 i hi').2.1)⟩
theorem OwP.below {lo hi : Nat} {w w' : World} {b : Nat} {gs : Nat → Nat} {ps : List Pr} (h : OwP lo hi w b gs ps) (hb : Below w.heap.size w w') : OwP lo hi w' b gs ps :=
  h.kept hb.size (fun k _ hk => hb.block k (by have := h.hi_le; omega))
theorem OwP.src {lo hi : Nat} {w : World} {b : Nat} {gs : Nat → Nat} {ps : List Pr} (h : OwP lo hi w b gs ps) : SrcP w (some ⟨b, 0, none⟩) ps := by
  refine .inr ⟨b, 0, rfl, fun i x hx => ?_⟩
  obtain ⟨c, c0, c1, c2, c3, c4⟩ := h.ent i x hx
  rw [Nat.zero_add]
  exact ⟨some ⟨gs i, 0, none⟩, c, c1, c2, c3, c4.src⟩

theorem ret_cellG {fn : Func} {i : Tmp} (hf : fn.results = #[.cell i 43]) {tmps : Array Value} {W : World} {b : Nat} {v0 v1 : Value} {R : Ending → World → Prop} (h4 : tmps.getD i undef = .pointer (some ⟨b, 0, none⟩))
    (k0 : W.cell? ⟨b, 0, none⟩ = some v0) (k1 : W.cell? ⟨b, 1, none⟩ = some v1) (hR : R (.returned (.agg #[v0, v1])) W) :
    bodyPost Tryd.prog fn R Exit.ret { tmps := tmps, defers := [] } W := by
  have h4' : tmps[i]?.getD undef = .pointer (some ⟨b, 0, none⟩) := by simpa using h4
  exact bodyPost_ret (v := .agg #[v0, v1]) (by simp [results, hf, go_sem, h4', k0, k1]) rfl hR

theorem ret_cellP {fn : Func} {i : Tmp} (hf : fn.results = #[.cell i 40]) {tmps : Array Value} {W : World} {b : Nat} {v0 v1 v2 : Value} {R : Ending → World → Prop} (h4 : tmps.getD i undef = .pointer (some ⟨b, 0, none⟩))
    (k0 : W.cell? ⟨b, 0, none⟩ = some v0) (k1 : W.cell? ⟨b, 1, none⟩ = some v1) (k2 : W.cell? ⟨b, 2, none⟩ = some v2) (hR : R (.returned (.agg #[v0, v1, v2])) W) :
    bodyPost Tryd.prog fn R Exit.ret { tmps := tmps, defers := [] } W := by
  have h4' : tmps[i]?.getD undef = .pointer (some ⟨b, 0, none⟩) := by simpa using h4
  exact bodyPost_ret (v := .agg #[v0, v1, v2]) (by simp [results, hf, go_sem, h4', k0, k1, k2]) rfl hR

set_option maxRecDepth 100000 in
theorem toG1_any (n : Int) (p : ByteArray) (w : World) :
    Calls Tryd.prog 51 #[.agg #[.int .i64 n, .string p]] w fun r w' => r = .returned (.agg #[.int .i64 n, .string p]) ∧ Below w.heap.size w w' := by
  go_enter Tryd.func51, Tryd.ntmps51
  go_wp2
  refine ret_cellG Tryd.results51 rfl (v0 := .int .i64 n) (v1 := .string p) (by simp [go_sem]) (by simp [go_sem]) ⟨rfl, (((Below.refl _ _).alloc (Nat.le_refl _) _).alloc (by simp) _).alloc (by simp; omega) _⟩

set_option maxRecDepth 100000 in
set_option maxHeartbeats 1000000 in
theorem toG_any (a : Option Addr) (cap : Nat) (l : List Gn) (w : World) (hb : SrcG w a l) (hn : l.length ≤ 1048576) :
    Calls Tryd.prog 31 #[.slice a l.length cap] w fun e w' => e = .returned (.slice (some ⟨w.heap.size, 0, none⟩) l.length l.length) ∧ w'.rowIs w.heap.size 43 (l.length * 2) (cellG l) ∧ Below w.heap.size w w' := by
  have hmk := makeN (P := Tryd.prog) 38 43 (.agg #[.int .i64 0, .string ⟨#[]⟩]) 2 24 Tryd.underlying38 infoG .i64 .i64 l.length (by omega) (by omega)
  go_enter Tryd.func31, Tryd.ntmps31
  go_wp2
  clear hmk
  go_loopw [4] (fun i wr => ∃ (k : Nat) (f : Nat → Value), k ≤ l.length ∧ i = .int .i64 (k : Int) ∧ wr.rowIs w.heap.size 43 (l.length * 2) (fun j => if j < k * 2 then cellG l j else f j) ∧ Below w.heap.size w wr) (fun i _ => l.length - (intOf i).toNat)
  case atStart =>
    refine ⟨0, (fun j => (#[.int .i64 0, .string ⟨#[]⟩] : Array Value)[j % 2]!), Nat.zero_le _, rfl, ?_, (Below.refl _ _).alloc (Nat.le_refl _) _⟩
    have h4 := rowIs_madeN w #[.int .i64 0, .string ⟨#[]⟩] l.length 2 43 rfl (by omega)
    exact h4.congr (fun j hj => by rw [if_neg (by omega)])
  case round =>
    obtain ⟨k, f, hk, rfl, hrow, hbel⟩ := hrel
    by_cases hlt : k < l.length
    · rcases hb with rfl | ⟨b, off, rfl, hc⟩
      · simp at hlt
      obtain ⟨x, hx⟩ : ∃ x, l[k]? = some x := ⟨_, List.getElem?_eq_getElem hlt⟩
      obtain ⟨g0, g1⟩ := (hc k x hx).below hbel
      have hki : (k : Int) < (l.length : Int) := by omega
      have hwl : w.heap.size < wr.heap.size := hrow.lt
      have HX : Hid (∀ W : World, W.rowIs w.heap.size 43 (l.length * 2) (fun j => if j < k * 2 then cellG l j else f j) → ((W.setCell ⟨w.heap.size, k * 2, none⟩ (.int .i64 x.n)).setCell ⟨w.heap.size, k * 2 + 1, none⟩ (.string x.p)).rowIs w.heap.size 43 (l.length * 2) (fun j => if j < (k + 1) * 2 then cellG l j else f j)) := fun W h => rowG2 hx h
      obtain ⟨P, hP⟩ : ∃ P, x.p = P := ⟨_, rfl⟩
      obtain ⟨z, hz⟩ : ∃ z, x.n = z := ⟨_, rfl⟩
      rw [hP] at g1 HX
      rw [hz] at g0 HX
      clear hc hx hP hz
      go_wp2_with (go_at_call 51; refine (toG1_any z P _).mono ?_; rintro e w1 ⟨rfl, hl1⟩; have hrow1 := hrow.of_block (hl1.block _ hwl); have r0 := hrow1.cell (i := k * 2) (by omega); have r1 := hrow1.cell (i := k * 2 + 1) (by omega); have f0 := hrow1.frozen (k * 2); have f1 := hrow1.frozen (k * 2 + 1))
      go_roundw
      case rel =>
        exact ⟨k + 1, f, by omega, by go_num, HX.out _ hrow1, ((hbel.trans (hl1.mono hbel.size)).setCell (Nat.le_refl _) _).setCell (Nat.le_refl _) _⟩
      case measure => simp [intOf]; omega
    · have hki : ¬ (k : Int) < (l.length : Int) := by omega
      obtain rfl : k = l.length := by omega
      go_wp2
      go_ret
      exact ⟨rfl, hrow.congr fun i hi => by simp [hi], hbel⟩

/-- Three cells stored one behind the other are there. -/
theorem three {W : World} {b : Nat} {u0 u1 u2 v0 v1 v2 : Value} (h0 : W.cell? ⟨b, 0, none⟩ = some u0) (h1 : W.cell? ⟨b, 1, none⟩ = some u1) (h2 : W.cell? ⟨b, 2, none⟩ = some u2) :
    (((W.setCell ⟨b, 0, none⟩ v0).setCell ⟨b, 1, none⟩ v1).setCell ⟨b, 2, none⟩ v2).cell? ⟨b, 0, none⟩ = some v0 ∧ (((W.setCell ⟨b, 0, none⟩ v0).setCell ⟨b, 1, none⟩ v1).setCell ⟨b, 2, none⟩ v2).cell? ⟨b, 1, none⟩ = some v1 ∧ (((W.setCell ⟨b, 0, none⟩ v0).setCell ⟨b, 1, none⟩ v1).setCell ⟨b, 2, none⟩ v2).cell? ⟨b, 2, none⟩ = some v2 := by
  have o : ∀ (X : World) (i j : Nat) (v : Value), i ≠ j → (X.setCell ⟨b, i, none⟩ v).cell? ⟨b, j, none⟩ = X.cell? ⟨b, j, none⟩ := fun X i j v h => World.cell?_setCell_other X ⟨b, i, none⟩ ⟨b, j, none⟩ v (by simp [h])
  refine ⟨?_, ?_, ?_⟩
  · rw [o _ _ _ _ (by omega), o _ _ _ _ (by omega)]
    exact World.cell?_setCell_same _ _ _ h0
  · rw [o _ _ _ _ (by omega)]
    exact World.cell?_setCell_same _ _ _ ((o _ _ _ _ (by omega)).trans h1)
  · exact World.cell?_setCell_same _ _ _ ((o _ _ _ _ (by omega)).trans ((o _ _ _ _ (by omega)).trans h2))

theorem blk_oth {w : World} {b c i : Nat} {v : Value} (h : c ≠ b) : (w.setCell ⟨b, i, none⟩ v).heap[c]? = w.heap[c]? := by
  simp only [World.setCell]
  rw [Array.getElem?_modify, if_neg (fun e => h e.symm)]

theorem far {w : World} {b c i j : Nat} {v : Value} (h : b ≠ c) : (w.setCell ⟨b, i, none⟩ v).cell? ⟨c, j, none⟩ = w.cell? ⟨c, j, none⟩ := World.cell?_of_block (a := ⟨c, j, none⟩) (blk_oth (fun e => h e.symm))

set_option maxRecDepth 100000 in
theorem toP1_any (A : ByteArray) (now : Int) (a : Option Addr) (cap : Nat) (l : List Gn) (w : World) (hb : SrcG w a l) (hn : l.length ≤ 1048576) :
    Calls Tryd.prog 16 #[.agg #[.string A, .int .i64 now, .slice a l.length cap]] w fun e w' => (∃ g, e = .returned (.agg #[.string A, .int .i64 now, .slice (some ⟨g, 0, none⟩) l.length l.length]) ∧ w.heap.size ≤ g ∧ OwG w' g l) ∧ Below w.heap.size w w' := by
  have HTO : Hid (∀ W, Below w.heap.size w W → Calls Tryd.prog 31 #[.slice a l.length cap] W fun e w' => e = .returned (.slice (some ⟨W.heap.size, 0, none⟩) l.length l.length) ∧ w'.rowIs W.heap.size 43 (l.length * 2) (cellG l) ∧ Below W.heap.size W w') := fun W h => toG_any a cap l W (hb.below h) hn
  clear hb
  go_enter Tryd.func16, Tryd.ntmps16
  go_wp2_with (go_at_call 31; refine (HTO.out _ ((((Below.refl _ _).alloc (Nat.le_refl _) _).alloc (by simp) _).alloc (by simp; omega) _)).mono ?_; rintro e w1 ⟨rfl, hrow, hl1⟩; obtain ⟨k1, k2⟩ := bcell hl1; refine Hid.out ?_)
  refine Lib.hid ?_
  have c0 : w1.cell? ⟨w.heap.size + 1 + 1, 0, none⟩ = some (.string A) := (k1 _ _ (by simp)).trans (by simp [go_sem])
  have c1 : w1.cell? ⟨w.heap.size + 1 + 1, 1, none⟩ = some (.int .i64 now) := (k1 _ _ (by simp)).trans (by simp [go_sem])
  have c2 : w1.cell? ⟨w.heap.size + 1 + 1, 2, none⟩ = some (.slice none 0 0) := (k1 _ _ (by simp)).trans (by simp [go_sem])
  have d0 : w1.cell? ⟨w.heap.size + 1, 0, none⟩ = some (.string ⟨#[]⟩) := (k1 _ _ (by simp)).trans (by simp [go_sem])
  have d1 : w1.cell? ⟨w.heap.size + 1, 1, none⟩ = some (.int .i64 0) := (k1 _ _ (by simp)).trans (by simp [go_sem])
  have d2 : w1.cell? ⟨w.heap.size + 1, 2, none⟩ = some (.slice none 0 0) := (k1 _ _ (by simp)).trans (by simp [go_sem])
  have f0 : ∀ o, w1.frozen? ⟨w.heap.size + 1 + 1, o, none⟩ = false := fun o => (k2 _ _ (by simp)).trans (by simp [go_sem])
  have f1 : ∀ o, w1.frozen? ⟨w.heap.size + 1, o, none⟩ = false := fun o => (k2 _ _ (by simp)).trans (by simp [go_sem])
  have HRW : Hid (OwG w1 (w.heap.size + 1 + 1 + 1) l) := by
    have := owG_row' hrow
    simp at this
    exact this
  have HBL : Hid (Below w.heap.size w w1) := ((((Below.refl _ _).alloc (Nat.le_refl _) _).alloc (by simp) _).alloc (by simp; omega) _).trans (hl1.mono (by simp; omega))
  clear hrow hl1 k1 k2
  go_wp2
  obtain ⟨t0, t1, t2⟩ := three (v0 := .string A) (v1 := .int .i64 now) (v2 := .slice (some ⟨w.heap.size + 1 + 1 + 1, 0, none⟩) l.length l.length) ((far (i := 2) (v := .slice (some ⟨w.heap.size + 1 + 1 + 1, 0, none⟩) l.length l.length) (by omega)).trans d0) ((far (b := w.heap.size + 1 + 1) (by omega)).trans d1) ((far (b := w.heap.size + 1 + 1) (by omega)).trans d2)
  refine ret_cellP Tryd.results16 rfl t0 t1 t2 ⟨⟨_, rfl, by omega, ?_⟩, ?_⟩
  · exact HRW.out.kept (by rw [blk_oth (by omega), blk_oth (by omega), blk_oth (by omega), blk_oth (by omega)])
  · exact (((HBL.out.setCell (show w.heap.size ≤ w.heap.size + 1 + 1 by omega) _).setCell (show w.heap.size ≤ w.heap.size + 1 by omega) _).setCell (show w.heap.size ≤ w.heap.size + 1 by omega) _).setCell (show w.heap.size ≤ w.heap.size + 1 by omega) _

/-- What has been copied of a list of profiles. -/
structure CopP (w : World) (b k : Nat) (f : Nat → Value) (gs : Nat → Nat) (ps : List Pr) : Prop where
  ent : ∀ (i : Nat) (x : Pr), i < k → ps[i]? = some x → f (i * 3) = .string x.name ∧ f (i * 3 + 1) = .int .i64 x.now ∧ f (i * 3 + 2) = .slice (some ⟨gs i, 0, none⟩) x.gens.length x.gens.length ∧ OwG w (gs i) x.gens ∧ b < gs i
  inj : ∀ i j, i < j → j < k → gs i ≠ gs j

set_option maxRecDepth 100000 in
set_option maxHeartbeats 1000000 in
theorem toP_any (a : Option Addr) (cap : Nat) (ps : List Pr) (w : World) (hb : SrcP w a ps) (hn : ps.length ≤ 1048576) (hg : ∀ x ∈ ps, x.gens.length ≤ 1048576) :
    Calls Tryd.prog 6 #[.slice a ps.length cap] w fun e w' => e = .returned (.slice (some ⟨w.heap.size, 0, none⟩) ps.length ps.length) ∧ (∃ gs, OwP w.heap.size w'.heap.size w' w.heap.size gs ps) ∧ Below w.heap.size w w' := by
  have hmk := makeN (P := Tryd.prog) 24 40 (.agg #[.string ⟨#[]⟩, .int .i64 0, .slice none 0 0]) 3 48 Tryd.underlying24 infoP .i64 .i64 ps.length (by omega) (by omega)
  have HG : Hid (∀ x ∈ ps, x.gens.length ≤ 1048576) := hg
  clear hg
  go_enter Tryd.func6, Tryd.ntmps6
  go_wp2
  clear hmk
  go_loopw [4] (fun i wr => ∃ (k : Nat) (f : Nat → Value) (gs : Nat → Nat), k ≤ ps.length ∧ i = .int .i64 (k : Int) ∧ wr.rowIs w.heap.size 40 (ps.length * 3) f ∧ CopP wr w.heap.size k f gs ps ∧ Below w.heap.size w wr) (fun i _ => ps.length - (intOf i).toNat)
  case atStart =>
    exact ⟨0, _, fun _ => 0, Nat.zero_le _, rfl, rowIs_madeN w #[.string ⟨#[]⟩, .int .i64 0, .slice none 0 0] ps.length 3 40 rfl (by omega), ⟨fun i x h => by omega, fun i j h h2 => by omega⟩, (Below.refl _ _).alloc (Nat.le_refl _) _⟩
  case round =>
    obtain ⟨k, f, gs, hk, rfl, hrow, hcop, hbel⟩ := hrel
    have HCP : Hid (CopP wr w.heap.size k f gs ps) := hcop
    by_cases hlt : k < ps.length
    · rcases hb with rfl | ⟨b, off, rfl, hc⟩
      · simp at hlt
      obtain ⟨x, hx⟩ : ∃ x, ps[k]? = some x := ⟨_, List.getElem?_eq_getElem hlt⟩
      obtain ⟨a', c', g0, g1, g2, hsr⟩ := (hc k x hx).below hbel
      have hki : (k : Int) < (ps.length : Int) := by omega
      have hwl : w.heap.size < wr.heap.size := hrow.lt
      have HTO : Hid (Calls Tryd.prog 16 #[.agg #[.string x.name, .int .i64 x.now, .slice a' x.gens.length c']] wr fun e w' => (∃ g, e = .returned (.agg #[.string x.name, .int .i64 x.now, .slice (some ⟨g, 0, none⟩) x.gens.length x.gens.length]) ∧ wr.heap.size ≤ g ∧ OwG w' g x.gens) ∧ Below wr.heap.size wr w') := toP1_any x.name x.now a' c' x.gens wr hsr (HG.out x (List.mem_of_getElem? hx))
      have HX : Hid (ps[k]? = some x) := hx
      obtain ⟨A, hA⟩ : ∃ P, x.name = P := ⟨_, rfl⟩
      obtain ⟨z, hz⟩ : ∃ z, x.now = z := ⟨_, rfl⟩
      obtain ⟨m, hm⟩ : ∃ z, x.gens.length = z := ⟨_, rfl⟩
      rw [hA] at g0 HTO
      rw [hz] at g1 HTO
      rw [hm] at g2 HTO
      have HE : Hid (x.name = A ∧ x.now = z ∧ x.gens.length = m) := ⟨hA, hz, hm⟩
      clear hc hx hsr hcop hA hz hm
      go_wp2_with (go_at_call 16; refine HTO.out.mono ?_; rintro e w1 ⟨⟨g, rfl, hgl, hog⟩, hl1⟩; have hrow1 := hrow.of_block (hl1.block _ hwl); have r0 := hrow1.cell (i := k * 3) (by omega); have r1 := hrow1.cell (i := k * 3 + 1) (by omega); have r2 := hrow1.cell (i := k * 3 + 2) (by omega); have f0 := hrow1.frozen (k * 3); have f1 := hrow1.frozen (k * 3 + 1); have f2 := hrow1.frozen (k * 3 + 2))
      go_roundw
      case rel =>
        obtain ⟨hA, hz, hm⟩ := HE.out
        refine ⟨k + 1, _, fun i => if i = k then g else gs i, by omega, by go_num, ((hrow1.set (k * 3) _).set (k * 3 + 1) _).set (k * 3 + 2) _, ⟨fun i y hi hy => ?_, fun i j hij hj => ?_⟩, (((hbel.trans (hl1.mono hbel.size)).setCell (Nat.le_refl _) _).setCell (Nat.le_refl _) _).setCell (Nat.le_refl _) _⟩
        · by_cases he : i = k
          · subst he
            rw [HX.out] at hy
            obtain rfl := Option.some.inj hy
            rw [hA, hz, hm]
            refine ⟨by simp, by simp, by simp, ?_, ?_⟩
            · rw [if_pos rfl]
              exact hog.kept (by rw [blk_oth (by omega), blk_oth (by omega), blk_oth (by omega)])
            · rw [if_pos rfl]; omega
          · obtain ⟨q0, q1, q2, q3, q4⟩ := HCP.out.ent i y (by omega) hy
            refine ⟨?_, ?_, ?_, ?_, ?_⟩
            · rw [if_neg (by omega), if_neg (by omega), if_neg (by omega), q0]
            · rw [if_neg (by omega), if_neg (by omega), if_neg (by omega), q1]
            · rw [if_neg (by omega), if_neg (by omega), if_neg (by omega), q2, if_neg he]
            · rw [if_neg he]
              exact (q3.kept (hl1.block _ q3.lt)).kept (by rw [blk_oth (by omega), blk_oth (by omega), blk_oth (by omega)])
            · rw [if_neg he]; exact q4
        · show (if i = k then g else gs i) ≠ (if j = k then g else gs j)
          rw [if_neg (by omega)]
          by_cases he : j = k
          · rw [if_pos he]
            obtain ⟨y, hy⟩ : ∃ y, ps[i]? = some y := ⟨_, List.getElem?_eq_getElem (by omega)⟩
            have := (HCP.out.ent i y (by omega) hy).2.2.2.1.lt
            omega
          · rw [if_neg he]
            exact HCP.out.inj i j hij (by omega)
      case measure => simp [intOf]; omega
    · have hki : ¬ (k : Int) < (ps.length : Int) := by omega
      obtain rfl : k = ps.length := by omega
      go_wp2
      go_ret
      refine ⟨rfl, ⟨gs, ⟨Nat.le_refl _, hrow.lt, Nat.le_refl _, ⟨_, f, Nat.le_refl _, hrow⟩, fun i x hx => ?_, fun i hi => ?_, HCP.out.inj⟩⟩, hbel⟩
      · have hi := (List.getElem?_eq_some_iff.1 hx).1
        obtain ⟨q0, q1, q2, q3, q4⟩ := HCP.out.ent i x hi hx
        exact ⟨x.gens.length, Nat.le_refl _, by rw [hrow.cell (by omega), q0], by rw [hrow.cell (by omega), q1], by rw [hrow.cell (by omega), q2], q3⟩
      · obtain ⟨x, hx⟩ : ∃ x, ps[i]? = some x := ⟨_, List.getElem?_eq_getElem hi⟩
        obtain ⟨q0, q1, q2, q3, q4⟩ := HCP.out.ent i x hi hx
        exact ⟨by omega, q3.lt, by omega⟩

end Go.Proofs.YtoaccaiddifliaaDoor.pf
