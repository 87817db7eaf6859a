import Derived.Test.YtogakignaaoklaaDB2
import Derived.Test.YtogakignaaoklaaNU
import Derived.Test.YtogakignaaoklaaLQ
import Derived.Maps.AppendAt
namespace Go.Proofs.Ytogakignaaoklaa.dl
open Go.ChangeShapes Go.WideShapes Go.ChangeAt Go.RowKit Go.Deep
open bf (Bf Ap num)
open Go.Proofs.Ytogakignaaoklaa.dr (Draws below_can once_can)
set_option linter.unusedVariables false
set_option linter.unusedSimpArgs false

/-! ### FnDeltaBack: steps as they are drawn -/

theorem srcd_kept {W W' : World} {a : Option Addr} {l : List UInt8} (h : l ≠ [] → ∃ g, a = some ⟨g, 0, none⟩ ∧ (∀ j (hj : j < l.length), W.cell? ⟨g, j, none⟩ = some (.int .u8 (l[j].toNat : Int))) ∧ W'.heap[g]? = W.heap[g]?) : SrcD W' a l := by
  by_cases hd : l = []
  · exact srcD_of (.inl hd)
  · obtain ⟨g, e, hc, hb⟩ := h hd
    exact srcD_of (.inr ⟨g, 0, e, fun i hi => by rw [Nat.zero_add, World.cell?_of_block (a := ⟨g, i, none⟩) hb]; exact hc i hi⟩)
/-- Steps as they were made, and the draws. -/
structure PS (w W : World) (c : Nat) (a : Option Addr) (n cap : Nat) (G : Nat) (zs : List Sz) (cp : Nat) : Prop where
  row : RowS w.heap.size W (.slice (some ⟨G, 0, none⟩) zs.length cp) zs
  nil : NilD zs
  dr : Draws w W c a n cap
theorem rowS_low {B B' : Nat} {w : World} {v : Value} {zs : List Sz} (h : RowS B w v zs) (hb : B' ≤ B) : RowS B' w v zs := ⟨by
  obtain ⟨h1, h2⟩ := h.own
  refine ⟨h1, ?_⟩
  rcases h2 with h2 | ⟨g, c, cur, k1, k2, k3⟩
  · exact .inl h2
  · exact .inr ⟨g, c, cur, k1, Nat.le_trans hb k2, k3⟩, h.shape, fun i z hz hd => by
    obtain ⟨g, e, ho, hg⟩ := h.dat i z hz hd
    exact ⟨g, e, ho, Nat.le_trans hb hg⟩, h.inj⟩
theorem PS.draws {w W W' : World} {c : Nat} {a : Option Addr} {n cap G cp : Nat} {zs : List Sz} (h : PS w W c a n cap G zs cp) (hcw : c < w.heap.size) (d : Draws W W' c a n cap) : PS w W' c a n cap G zs cp := ⟨h.row.kept d.grown hcw, h.nil, h.dr.trans d⟩
theorem PS.below {w W W' : World} {c : Nat} {a : Option Addr} {n cap G cp : Nat} {zs : List Sz} (h : PS w W c a n cap G zs cp) (hc : dr.Can w c a n cap) (hcw : c < w.heap.size) (d : Below W.heap.size W W') : PS w W' c a n cap G zs cp := ⟨h.row.below d, h.nil, h.dr.below hc hcw d⟩
theorem PS.cell0 {w W : World} {c : Nat} {a : Option Addr} {n cap G cp i : Nat} {zs : List Sz} {z : Sz} (h : PS w W c a n cap G zs cp) (hz : zs[i]? = some z) : W.cell? ⟨G, i * 4, none⟩ = some (.int .i64 z.x.k) := h.row.cell (j := 0) hz (by omega)
theorem PS.cell1 {w W : World} {c : Nat} {a : Option Addr} {n cap G cp i : Nat} {zs : List Sz} {z : Sz} (h : PS w W c a n cap G zs cp) (hz : zs[i]? = some z) : W.cell? ⟨G, i * 4 + 1, none⟩ = some (.int .i64 z.x.p) := h.row.cell (j := 1) hz (by omega)
theorem PS.cell2 {w W : World} {c : Nat} {a : Option Addr} {n cap G cp i : Nat} {zs : List Sz} {z : Sz} (h : PS w W c a n cap G zs cp) (hz : zs[i]? = some z) : W.cell? ⟨G, i * 4 + 2, none⟩ = some (.int .i64 z.x.n) := h.row.cell (j := 2) hz (by omega)
theorem PS.cell3 {w W : World} {c : Nat} {a : Option Addr} {n cap G cp i : Nat} {zs : List Sz} {z : Sz} (h : PS w W c a n cap G zs cp) (hz : zs[i]? = some z) : W.cell? ⟨G, i * 4 + 3, none⟩ = some (.slice z.a z.x.d.length z.c) := h.row.cell (j := 3) hz (by omega)
theorem PS.frz {w W : World} {c : Nat} {a : Option Addr} {n cap G cp : Nat} {zs : List Sz} (h : PS w W c a n cap G zs cp) (o : Nat) : W.frozen? ⟨G, o, none⟩ = false := h.row.own.frozenAt _
theorem PS.lt {w W : World} {c : Nat} {a : Option Addr} {n cap G cp : Nat} {zs : List Sz} (h : PS w W c a n cap G zs cp) : w.heap.size ≤ G ∧ G < W.heap.size := h.row.own.lt G rfl
/-- What is handed back. -/
def FS (w W : World) (c : Nat) (a : Option Addr) (n cap : Nat) (v0 : Value) (G m cp : Nat) : Prop := ∃ v' G' cp' ss, Ending.returned (.tuple #[v0, .slice (some ⟨G, 0, none⟩) m cp]) = .returned (.tuple #[v', .slice (some ⟨G', 0, none⟩) ss.length cp']) ∧ Rd W G' 0 ss ∧ wt ss ≤ 20000 ∧ Draws w W c a n cap
theorem PS.ret {w W : World} {c : Nat} {a : Option Addr} {n cap G cp : Nat} {zs : List Sz} {v0 : Value} (h : PS w W c a n cap G zs cp) (hw : wt (xs zs) ≤ 6000) : FS w W c a n cap v0 G zs.length cp := by
  refine ⟨v0, G, cp, xs zs, by rw [xs_len], fun i x hx => ?_, by omega, h.dr⟩
  obtain ⟨z, hz, rfl⟩ := xs_at hx
  rw [Nat.zero_add]
  exact ⟨z.a, z.c, h.cell0 hz, h.cell1 hz, h.cell2 hz, h.cell3 hz, srcd_kept fun hd => by
    obtain ⟨g, e, ho, _⟩ := h.row.dat i z hz hd
    exact ⟨g, e, ho.cells, rfl⟩⟩
theorem wt_set {l : List Sp} {i : Nat} {x : Sp} : ∀ {y : Sp}, l[i]? = some y → wt (l.set i x) ≤ wt l + x.d.length := fun {y} hy => by
  unfold wt wtS
  rw [List.take_length, List.take_length, List.length_set, List.map_set]
  have h2 : ∀ (q : List Nat) (k v : Nat), (q.set k v).sum ≤ q.sum + v := fun q => by
    induction q with
    | nil => intro k v; simp
    | cons b q ih =>
      intro k v
      cases k with
      | zero => simp; omega
      | succ k => have := ih k v; simp; omega
  have := h2 (l.map fun x => x.d.length) i x.d.length
  omega
/-- One step is another one. -/
theorem PS.core {w W W1 : World} {c : Nat} {a : Option Addr} {n cap G cp i r : Nat} {zs : List Sz} {z : Sz} {x' : Sp} {val v0 : Value} {row : Option Nat} (h : PS w W c a n cap G zs cp) (hw : wt (xs zs) ≤ 6000) (hc : dr.Can w c a n cap) (hcw : c < w.heap.size) (hz : zs[i]? = some z) (hr : r < 4) (hg : W.grownBy W1 row)
    (hrow : ∀ g, row = some g → z.a = some ⟨g, 0, none⟩ ∧ z.x.d ≠ []) (hd' : x'.d.length ≤ 7000)
    (hS : S4 (W1.setCell ⟨G, i * 4 + r, none⟩ val) G (i * 4) x') : FS w (W1.setCell ⟨G, i * 4 + r, none⟩ val) c a n cap v0 G zs.length cp := by
  have hlt := h.lt
  have hws := h.dr.grown.size
  have hgG : some G ≠ row := fun e => by
    obtain ⟨e1, e2⟩ := hrow G e.symm
    obtain ⟨g, e3, ho, _⟩ := h.row.dat i z hz e2
    rw [e1] at e3
    cases e3
    exact h.row.apart ho e2 rfl
  have hG : W1.heap[G]? = W.heap[G]? := hg.block G hlt.2 hgG
  have hil := (List.getElem?_eq_some_iff.1 hz).1
  refine ⟨v0, G, cp, (xs zs).set i x', by rw [List.length_set, xs_len], fun j x hx => ?_, ?_, draws_mid h.dr hc hcw ?_⟩
  · rw [Nat.zero_add]
    by_cases hj : j = i
    · subst hj
      rw [List.getElem?_set_self (by rw [xs_len]; exact hil)] at hx
      cases hx
      exact hS
    · rw [List.getElem?_set_ne (Ne.symm hj)] at hx
      obtain ⟨q, hq, rfl⟩ := xs_at hx
      have k : ∀ o, o ≠ i * 4 + r → (W1.setCell ⟨G, i * 4 + r, none⟩ val).cell? ⟨G, o, none⟩ = W.cell? ⟨G, o, none⟩ := fun o ho => (oth (Ne.symm ho)).trans (World.cell?_of_block (a := ⟨G, o, none⟩) hG)
      have hjd : j < i ∨ i < j := by omega
      exact ⟨q.a, q.c, (k _ (by omega)).trans (h.cell0 hq), (k _ (by omega)).trans (h.cell1 hq), (k _ (by omega)).trans (h.cell2 hq), (k _ (by omega)).trans (h.cell3 hq), srcd_kept fun hd => by
        obtain ⟨g, e, ho, _⟩ := h.row.dat j q hq hd
        refine ⟨g, e, ho.cells, (blk_oth (h.row.apart ho hd)).trans (hg.block g ho.lt fun e2 => ?_)⟩
        obtain ⟨e3, e4⟩ := hrow g e2.symm
        rcases hjd with hlt' | hlt'
        · exact h.row.inj j i q z g hlt' hq hz hd e4 e e3
        · exact h.row.inj i j z q g hlt' hz hq e4 hd e3 e⟩
  · have := wt_set (x := x') (show (xs zs)[i]? = some z.x by unfold xs; rw [List.getElem?_map, hz]; rfl)
    omega
  · exact ⟨hg.os, hg.tape, hg.output, by simp; exact hg.size, fun k hk => by
      rw [blk_oth (by omega)]
      exact hg.block k (by omega) fun e => by
        obtain ⟨e1, e2⟩ := hrow k e.symm
        obtain ⟨g, e3, _, hb⟩ := h.row.dat i z hz e2
        rw [e1] at e3
        cases e3
        omega⟩
theorem xs_some {zs : List Sz} {i : Nat} {z : Sz} (hz : zs[i]? = some z) : (xs zs)[i]? = some z.x := by unfold xs; rw [List.getElem?_map, hz]; rfl
theorem PS.fin0 {w W : World} {c : Nat} {a : Option Addr} {n cap G cp i : Nat} {zs : List Sz} {z : Sz} {v0 : Value} (h : PS w W c a n cap G zs cp) (hw : wt (xs zs) ≤ 6000) (hc : dr.Can w c a n cap) (hcw : c < w.heap.size) (hz : zs[i]? = some z) (q : Int) : FS w (W.setCell ⟨G, i * 4, none⟩ (.int .i64 q)) c a n cap v0 G zs.length cp :=
  h.core (r := 0) (x' := ⟨q, z.x.p, z.x.n, z.x.d⟩) hw hc hcw hz (by omega) ⟨rfl, rfl, rfl, Nat.le_refl _, fun _ _ _ => rfl⟩ (row := none) (fun g e => by cases e) (show z.x.d.length ≤ 7000 from Nat.le_trans (wt_d (ss := xs zs) (x := z.x) (List.mem_of_getElem? (xs_some hz))) (by omega)) ⟨z.a, z.c, World.cell?_setCell_same _ _ _ (h.cell0 hz), (oth (by omega)).trans (h.cell1 hz), (oth (by omega)).trans (h.cell2 hz), (oth (by omega)).trans (h.cell3 hz), srcd_kept fun hd => by
    obtain ⟨g, e, ho, _⟩ := h.row.dat i z hz hd
    exact ⟨g, e, ho.cells, blk_oth (h.row.apart ho hd)⟩⟩
theorem PS.fin1 {w W : World} {c : Nat} {a : Option Addr} {n cap G cp i : Nat} {zs : List Sz} {z : Sz} {v0 : Value} (h : PS w W c a n cap G zs cp) (hw : wt (xs zs) ≤ 6000) (hc : dr.Can w c a n cap) (hcw : c < w.heap.size) (hz : zs[i]? = some z) (q : Int) : FS w (W.setCell ⟨G, i * 4 + 1, none⟩ (.int .i64 q)) c a n cap v0 G zs.length cp :=
  h.core (r := 1) (x' := ⟨z.x.k, q, z.x.n, z.x.d⟩) hw hc hcw hz (by omega) ⟨rfl, rfl, rfl, Nat.le_refl _, fun _ _ _ => rfl⟩ (row := none) (fun g e => by cases e) (show z.x.d.length ≤ 7000 from Nat.le_trans (wt_d (ss := xs zs) (x := z.x) (List.mem_of_getElem? (xs_some hz))) (by omega)) ⟨z.a, z.c, (oth (by omega)).trans (h.cell0 hz), World.cell?_setCell_same _ _ _ (h.cell1 hz), (oth (by omega)).trans (h.cell2 hz), (oth (by omega)).trans (h.cell3 hz), srcd_kept fun hd => by
    obtain ⟨g, e, ho, _⟩ := h.row.dat i z hz hd
    exact ⟨g, e, ho.cells, blk_oth (h.row.apart ho hd)⟩⟩
theorem PS.fin2 {w W : World} {c : Nat} {a : Option Addr} {n cap G cp i : Nat} {zs : List Sz} {z : Sz} {v0 : Value} (h : PS w W c a n cap G zs cp) (hw : wt (xs zs) ≤ 6000) (hc : dr.Can w c a n cap) (hcw : c < w.heap.size) (hz : zs[i]? = some z) (q : Int) : FS w (W.setCell ⟨G, i * 4 + 2, none⟩ (.int .i64 q)) c a n cap v0 G zs.length cp :=
  h.core (r := 2) (x' := ⟨z.x.k, z.x.p, q, z.x.d⟩) hw hc hcw hz (by omega) ⟨rfl, rfl, rfl, Nat.le_refl _, fun _ _ _ => rfl⟩ (row := none) (fun g e => by cases e) (show z.x.d.length ≤ 7000 from Nat.le_trans (wt_d (ss := xs zs) (x := z.x) (List.mem_of_getElem? (xs_some hz))) (by omega)) ⟨z.a, z.c, (oth (by omega)).trans (h.cell0 hz), (oth (by omega)).trans (h.cell1 hz), World.cell?_setCell_same _ _ _ (h.cell2 hz), (oth (by omega)).trans (h.cell3 hz), srcd_kept fun hd => by
    obtain ⟨g, e, ho, _⟩ := h.row.dat i z hz hd
    exact ⟨g, e, ho.cells, blk_oth (h.row.apart ho hd)⟩⟩
/-- One byte more behind a step's Data. -/
theorem PS.fin3 {w W W0 W1 : World} {c : Nat} {a : Option Addr} {n cap G cp i g' c' : Nat} {zs : List Sz} {z : Sz} {v0 : Value} {row : Option Nat} (h : PS w W c a n cap G zs cp) (hw : wt (xs zs) ≤ 6000) (hc : dr.Can w c a n cap) (hcw : c < w.heap.size) (hz : zs[i]? = some z) (hg : W.grownBy W1 row) (hrow : ∀ g, row = some g → z.a = some ⟨g, 0, none⟩ ∧ z.x.d ≠ [])
    (hcl : ∀ j (hj : j < (z.x.d ++ [1]).length), W1.cell? ⟨g', j, none⟩ = some (.int .u8 ((z.x.d ++ [1])[j].toNat : Int))) (hgG : g' ≠ G) : FS w (W1.setCell ⟨G, i * 4 + 3, none⟩ (.slice (some ⟨g', 0, none⟩) (z.x.d.length + 1) c')) c a n cap v0 G zs.length cp := by
  have hlt := h.lt
  have hgG' : some G ≠ row := fun e => by
    obtain ⟨e1, e2⟩ := hrow G e.symm
    obtain ⟨g, e3, ho, _⟩ := h.row.dat i z hz e2
    rw [e1] at e3
    cases e3
    exact h.row.apart ho e2 rfl
  have k : ∀ o, W1.cell? ⟨G, o, none⟩ = W.cell? ⟨G, o, none⟩ := fun o => World.cell?_of_block (a := ⟨G, o, none⟩) (hg.block G hlt.2 hgG')
  have hdl := wt_d (List.mem_of_getElem? (xs_some hz))
  refine h.core (r := 3) (x' := ⟨z.x.k, z.x.p, z.x.n, z.x.d ++ [1]⟩) (row := row) hw hc hcw hz (by omega) hg hrow (by simp; omega) ⟨some ⟨g', 0, none⟩, c', (oth (by omega)).trans ((k _).trans (h.cell0 hz)), (oth (by omega)).trans ((k _).trans (h.cell1 hz)), (oth (by omega)).trans ((k _).trans (h.cell2 hz)), ?_, srcd_kept fun _ => ⟨g', rfl, hcl, blk_oth hgG⟩⟩
  rw [show (z.x.d ++ [(1 : UInt8)]).length = z.x.d.length + 1 by simp]
  exact World.cell?_setCell_same _ _ _ ((k _).trans (h.cell3 hz))
def T4 (W : World) (tb : Nat) : Prop := ∀ x, x < 4 → ∃ y : Int, W.cell? ⟨tb, x, none⟩ = some (.int .i64 y)
theorem t4_new (W : World) : T4 (W.alloc (.cells #[.int .i64 1, .int .i64 (-1), .int .i64 268435456, .int .i64 4611686018427387904] 2)) W.heap.size := fun x hx => by
  match x, hx with
  | 0, _ => exact ⟨1, by simp⟩
  | 1, _ => exact ⟨-1, by simp⟩
  | 2, _ => exact ⟨268435456, by simp⟩
  | 3, _ => exact ⟨4611686018427387904, by simp⟩
theorem t4_draws {W W' : World} {tb c : Nat} {a : Option Addr} {n cap : Nat} (hne : tb ≠ c) (h : T4 W tb) (d : Draws W W' c a n cap) : T4 W' tb := fun x hx => by
  obtain ⟨y, hy⟩ := h x hx
  exact ⟨y, d.grown.cell hy (by simp; exact hne)⟩

set_option maxHeartbeats 8000000 in
set_option maxRecDepth 100000 in
theorem steps_any {w : World} {c : Nat} {a : Option Addr} {n cap : Nat} (hc : dr.Can w c a n cap) (hcw : c < w.heap.size) :
    Calls Try.prog 20 #[.pointer (some ⟨c, 0, none⟩)] w fun e w' => ∃ v' G' cp' ss, e = .returned (.tuple #[v', .slice (some ⟨G', 0, none⟩) ss.length cp']) ∧ Rd w' G' 0 ss ∧ wt ss ≤ 20000 ∧ Draws w w' c a n cap := by
  go_enter Try.func20, Try.ntmps20
  go_wp2_with (go_at_call 15; refine (bytes_any hc hcw).mono ?_; rintro e w1 ⟨og, oc, old, fg, fc, fresh, rfl, hol, hfl, hy⟩; refine Hid.out ?_)
  refine Lib.hid ?_
  have HY : Hid (DY w w1 c a n cap og oc old fg fc fresh) := hy
  have HSM := Lib.hid (smk_any (oc := oc) (nc := fc) og fg old.length fresh.length old fresh rfl rfl (by omega) (by omega) w1 hy.ob.cells hy.fb.cells hy.ob.lt hy.fb.lt)
  have HW6 : Hid (wt (mkB' old fresh) ≤ 6000) := wt_mkB old fresh
  clear hy
  go_wp2_with (go_at_call 11; refine HSM.out.mono ?_; rintro e w2 ⟨v2, zs, base, rfl, hxs, hbs, hrw, hnd, hb2⟩; refine Hid.out ?_)
  refine Lib.hid ?_
  have hs1 := HY.out.dr.grown.size
  obtain ⟨G, cp, hv2, _⟩ := hrw.shape
  subst hv2
  have HP2 : Hid (PS w w2 c a n cap G zs cp) := ⟨rowS_low hrw (by omega), hnd, HY.out.dr.below hc hcw hb2⟩
  have HWT : Hid (wt (xs zs) ≤ 6000) := by show _ ≤ _; rw [hxs]; exact HW6.out
  obtain ⟨m, hm⟩ : ∃ m, zs.length = m := ⟨_, rfl⟩
  have HM : Hid (zs.length = m) := hm
  have hm6 : m ≤ 6000 := by have := wt_len (xs zs); rw [xs_len, hm] at this; have := HWT.out; omega
  rw [hm]
  clear hrw hnd hb2 hxs hbs hm HSM HY HW6
  have HRET : Hid (∀ (W : World) (v0 : Value), PS w W c a n cap G zs cp → FS w W c a n cap v0 G m cp) := fun W v0 h => by rw [← HM.out]; exact h.ret HWT.out
  go_wp2_with (go_at_call 33; refine (once_can (hc.draws HP2.out.dr) 3 (by decide) (by decide)).mono ?_; rintro e w3 ⟨o3, rfl, d3⟩; refine Hid.out ?_)
  refine Lib.hid ?_
  have HP3 : Hid (PS w w3 c a n cap G zs cp) := HP2.out.draws hcw d3
  clear d3 HP2
  cases o3
  · have HF := Lib.hid (fun v0 => HRET.out _ v0 HP3.out)
    go_wp2
    go_ret2
    exact HF.out _
  · by_cases h0 : 0 < m
    · have h0' : 0 < (m : Int) := by omega
      go_wp2_with (go_at_call 22; refine (below_can (hc.draws HP3.out.dr) m (by omega) (by omega)).mono ?_; rintro e w4 ⟨i, rfl, hi, d4⟩; refine Hid.out ?_)
      refine Lib.hid ?_
      have HP4 : Hid (PS w w4 c a n cap G zs cp) := HP3.out.draws hcw d4
      have hi' : (i : Int) < (m : Int) := by omega
      have hi0 : (0 : Int) ≤ (i : Int) := by omega
      clear d4 HP3
      go_wp2_with (go_at_call 22; refine (below_can (hc.draws HP4.out.dr) 4 (by decide) (by decide)).mono ?_; rintro e w5 ⟨x5, rfl, hx5, d5⟩; refine Hid.out ?_)
      refine Lib.hid ?_
      have F00 : Hid (PS w w5 c a n cap G zs cp) := HP4.out.draws hcw d5
      clear d5 HP4
      obtain ⟨z, hz⟩ : ∃ z, zs[i]? = some z := ⟨_, List.getElem?_eq_getElem (by rw [HM.out]; exact hi)⟩
      have HX : Hid (zs[i]? = some z) := hz
      have hcw5 : c < w5.heap.size := by have := F00.out.dr.grown.size; omega
      clear hz
      have HPD : Hid (∀ W W', PS w W c a n cap G zs cp → Draws W W' c a n cap → PS w W' c a n cap G zs cp) := fun W W' h d => h.draws hcw d
      have HPB : Hid (∀ W W', PS w W c a n cap G zs cp → Below W.heap.size W W' → PS w W' c a n cap G zs cp) := fun W W' h d => h.below hc hcw d
      have HTN : Hid (∀ W : World, T4 (W.alloc (.cells #[.int .i64 1, .int .i64 (-1), .int .i64 268435456, .int .i64 4611686018427387904] 2)) W.heap.size) := t4_new
      have HTD : Hid (∀ (W : World) {tb : Nat}, T4 W tb → T4 W.drew tb) := fun W {tb} h => h
      have HTW : Hid (∀ (W W' : World) (tb : Nat), tb ≠ c → T4 W tb → Draws W W' c a n cap → T4 W' tb) := fun W W' tb h1 h2 h3 => t4_draws h1 h2 h3
      have HFIN0 : Hid (∀ (W : World) (q : Int) (v0 : Value), PS w W c a n cap G zs cp → FS w (W.setCell ⟨G, i * 4, none⟩ (.int .i64 q)) c a n cap v0 G m cp) := fun W q v0 h => by rw [← HM.out]; exact h.fin0 HWT.out hc hcw HX.out q
      have HFIN1 : Hid (∀ (W : World) (q : Int) (v0 : Value), PS w W c a n cap G zs cp → FS w (W.setCell ⟨G, i * 4 + 1, none⟩ (.int .i64 q)) c a n cap v0 G m cp) := fun W q v0 h => by rw [← HM.out]; exact h.fin1 HWT.out hc hcw HX.out q
      have HFIN2 : Hid (∀ (W : World) (q : Int) (v0 : Value), PS w W c a n cap G zs cp → FS w (W.setCell ⟨G, i * 4 + 2, none⟩ (.int .i64 q)) c a n cap v0 G m cp) := fun W q v0 h => by rw [← HM.out]; exact h.fin2 HWT.out hc hcw HX.out q
      by_cases hz0 : x5 = 0
      · subst hz0
        clear HFIN0 HFIN2
        have HC : Hid (∀ W, PS w W c a n cap G zs cp → W.cell? ⟨G, i * 4 + 1, none⟩ = some (.int .i64 z.x.p)) := fun W h => h.cell1 HX.out
        have HZ : Hid (∀ W, PS w W c a n cap G zs cp → W.frozen? ⟨G, i * 4 + 1, none⟩ = false) := fun W h => h.frz _
        have F0 : Hid (PS w w5.drew c a n cap G zs cp) := HPB.out _ _ F00.out (Below.refl _ _).drew
        go_wp2_with fail
        refine wq 14 (S := fun _ => True) (by kernel_rfl) trivial fun hHeld => ?_
        refine uq (i := 0) rfl ?_
        try simp only [aP]
        refine uq (i := 1) rfl ?_
        try simp only [aP]
        refine uq (i := 2) rfl ?_
        try simp only [aP]
        refine uq (i := 3) rfl ?_
        try simp only [aP]
        refine uq (i := 6) rfl ?_
        try simp only [aP]
        refine wpAnyH_ready (rs := [4, 5, 7]) (by kernel_rfl) (by simp) ?_
        refine cq rfl (fun K hK => ?_) (cq rfl (fun K hK => ?_) (cq rfl (fun K hK => ?_) AllReadyH.nil))
        · have d3 := (HC.out _ F0.out)
          go_simp
          try go_wp2_with fail
          refine hK.out _ _ trivial (fun hHeld => ?_)
          clear hK K d3
          try simp only [aP]
          refine wpAnyH_ready (rs := [5, 7]) (by kernel_rfl) (by simp) ?_
          refine cq rfl (fun K hK => ?_) (cq rfl (fun K hK => ?_) AllReadyH.nil)
          · have F5 : Hid (PS w (w5.alloc (.cells #[.int .i64 1, .int .i64 (-1), .int .i64 268435456, .int .i64 4611686018427387904] 2)).drew c a n cap G zs cp) := HPB.out _ _ F00.out (((Below.refl _ _).alloc (Nat.le_refl _) _).drew)
            have T5 := Lib.hid (HTD.out (w5.alloc (.cells #[.int .i64 1, .int .i64 (-1), .int .i64 268435456, .int .i64 4611686018427387904] 2)) (HTN.out w5))
            have htc : w5.heap.size ≠ c := by omega
            go_simp
            try go_wp2_with fail
            refine hK.out _ _ trivial (fun hHeld => ?_)
            clear hK K
            try simp only [aP]
            refine rq 7 rfl fun K hK => ?_
            go_simp
            (go_at_call 22; refine (below_can (hc.draws F5.out.dr) 4 (by decide) (by decide)).mono ?_; rintro e w7 ⟨x7, rfl, hx7, d7⟩)
            try go_wp2_with fail
            have F7 := Lib.hid (HPD.out _ _ F5.out d7)
            have T7 := Lib.hid (HTW.out _ _ _ htc T5.out d7)
            refine hK.out _ _ trivial (fun hHeld => ?_)
            clear hK K d7
            try simp only [aP]
            obtain ⟨y9, hy9⟩ := T7.out x7 hx7
            have hx7' : (x7 : Int) < 4 := by omega
            have hx70 : (0 : Int) ≤ (x7 : Int) := by omega
            refine uq (i := 8) rfl ?_
            try simp only [aP]
            refine rq 9 rfl fun K hK => ?_
            go_simp
            try go_wp2_with fail
            refine hK.out _ _ trivial (fun hHeld => ?_)
            clear hK K
            try simp only [aP]
            refine uq (i := 10) rfl ?_
            try simp only [aP]
            refine uq (i := 11) rfl ?_
            try simp only [aP]
            refine uq (i := 12) rfl ?_
            try simp only [aP]
            refine rq 13 rfl fun K hK => ?_
            have d4 := HC.out _ F7.out
            have d5 := HZ.out _ F7.out
            have HF := Lib.hid (fun q v0 => HFIN1.out _ q v0 F7.out)
            go_simp
            try go_wp2_with fail
            refine hK.out _ _ trivial (fun hHeld => ?_)
            clear hK K d4 d5
            try simp only [aP]
            refine dq ?_
            go_wp2
            go_ret2
            exact HF.out _ _
          · go_simp
            (go_at_call 22; refine (below_can (hc.draws F0.out.dr) 4 (by decide) (by decide)).mono ?_; rintro e w7 ⟨x7, rfl, hx7, d7⟩)
            try go_wp2_with fail
            have F7 := Lib.hid (HPD.out _ _ F0.out d7)
            refine hK.out _ _ trivial (fun hHeld => ?_)
            clear hK K d7
            try simp only [aP]
            refine rq 5 rfl fun K hK => ?_
            have F5 := Lib.hid (HPB.out _ _ F7.out ((Below.refl _ w7).alloc (Nat.le_refl _) (.cells #[.int .i64 1, .int .i64 (-1), .int .i64 268435456, .int .i64 4611686018427387904] 2)))
            have T5 := Lib.hid (HTN.out w7)
            go_simp
            try go_wp2_with fail
            refine hK.out _ _ trivial (fun hHeld => ?_)
            clear hK K
            try simp only [aP]
            obtain ⟨y9, hy9⟩ := T5.out x7 hx7
            have hx7' : (x7 : Int) < 4 := by omega
            have hx70 : (0 : Int) ≤ (x7 : Int) := by omega
            refine uq (i := 8) rfl ?_
            try simp only [aP]
            refine rq 9 rfl fun K hK => ?_
            go_simp
            try go_wp2_with fail
            refine hK.out _ _ trivial (fun hHeld => ?_)
            clear hK K
            try simp only [aP]
            refine uq (i := 10) rfl ?_
            try simp only [aP]
            refine uq (i := 11) rfl ?_
            try simp only [aP]
            refine uq (i := 12) rfl ?_
            try simp only [aP]
            refine rq 13 rfl fun K hK => ?_
            have d4 := HC.out _ F5.out
            have d5 := HZ.out _ F5.out
            have HF := Lib.hid (fun q v0 => HFIN1.out _ q v0 F5.out)
            go_simp
            try go_wp2_with fail
            refine hK.out _ _ trivial (fun hHeld => ?_)
            clear hK K d4 d5
            try simp only [aP]
            refine dq ?_
            go_wp2
            go_ret2
            exact HF.out _ _
        · have F5 : Hid (PS w (w5.alloc (.cells #[.int .i64 1, .int .i64 (-1), .int .i64 268435456, .int .i64 4611686018427387904] 2)).drew c a n cap G zs cp) := HPB.out _ _ F00.out (((Below.refl _ _).alloc (Nat.le_refl _) _).drew)
          have T5 := Lib.hid (HTD.out (w5.alloc (.cells #[.int .i64 1, .int .i64 (-1), .int .i64 268435456, .int .i64 4611686018427387904] 2)) (HTN.out w5))
          have htc : w5.heap.size ≠ c := by omega
          go_simp
          try go_wp2_with fail
          refine hK.out _ _ trivial (fun hHeld => ?_)
          clear hK K
          try simp only [aP]
          refine wpAnyH_ready (rs := [4, 7]) (by kernel_rfl) (by simp) ?_
          refine cq rfl (fun K hK => ?_) (cq rfl (fun K hK => ?_) AllReadyH.nil)
          · have d3 := (HC.out _ F5.out)
            go_simp
            try go_wp2_with fail
            refine hK.out _ _ trivial (fun hHeld => ?_)
            clear hK K d3
            try simp only [aP]
            refine rq 7 rfl fun K hK => ?_
            go_simp
            (go_at_call 22; refine (below_can (hc.draws F5.out.dr) 4 (by decide) (by decide)).mono ?_; rintro e w7 ⟨x7, rfl, hx7, d7⟩)
            try go_wp2_with fail
            have F7 := Lib.hid (HPD.out _ _ F5.out d7)
            have T7 := Lib.hid (HTW.out _ _ _ htc T5.out d7)
            refine hK.out _ _ trivial (fun hHeld => ?_)
            clear hK K d7
            try simp only [aP]
            obtain ⟨y9, hy9⟩ := T7.out x7 hx7
            have hx7' : (x7 : Int) < 4 := by omega
            have hx70 : (0 : Int) ≤ (x7 : Int) := by omega
            refine uq (i := 8) rfl ?_
            try simp only [aP]
            refine rq 9 rfl fun K hK => ?_
            go_simp
            try go_wp2_with fail
            refine hK.out _ _ trivial (fun hHeld => ?_)
            clear hK K
            try simp only [aP]
            refine uq (i := 10) rfl ?_
            try simp only [aP]
            refine uq (i := 11) rfl ?_
            try simp only [aP]
            refine uq (i := 12) rfl ?_
            try simp only [aP]
            refine rq 13 rfl fun K hK => ?_
            have d4 := HC.out _ F7.out
            have d5 := HZ.out _ F7.out
            have HF := Lib.hid (fun q v0 => HFIN1.out _ q v0 F7.out)
            go_simp
            try go_wp2_with fail
            refine hK.out _ _ trivial (fun hHeld => ?_)
            clear hK K d4 d5
            try simp only [aP]
            refine dq ?_
            go_wp2
            go_ret2
            exact HF.out _ _
          · go_simp
            (go_at_call 22; refine (below_can (hc.draws F5.out.dr) 4 (by decide) (by decide)).mono ?_; rintro e w7 ⟨x7, rfl, hx7, d7⟩)
            try go_wp2_with fail
            have F7 := Lib.hid (HPD.out _ _ F5.out d7)
            have T7 := Lib.hid (HTW.out _ _ _ htc T5.out d7)
            refine hK.out _ _ trivial (fun hHeld => ?_)
            clear hK K d7
            try simp only [aP]
            obtain ⟨y9, hy9⟩ := T7.out x7 hx7
            have hx7' : (x7 : Int) < 4 := by omega
            have hx70 : (0 : Int) ≤ (x7 : Int) := by omega
            refine uq (i := 8) rfl ?_
            try simp only [aP]
            refine wpAnyH_ready (rs := [4, 9]) (by kernel_rfl) (by simp) ?_
            refine cq rfl (fun K hK => ?_) (cq rfl (fun K hK => ?_) AllReadyH.nil)
            · have d3 := (HC.out _ F7.out)
              go_simp
              try go_wp2_with fail
              refine hK.out _ _ trivial (fun hHeld => ?_)
              clear hK K d3
              try simp only [aP]
              refine rq 9 rfl fun K hK => ?_
              go_simp
              try go_wp2_with fail
              refine hK.out _ _ trivial (fun hHeld => ?_)
              clear hK K
              try simp only [aP]
              refine uq (i := 10) rfl ?_
              try simp only [aP]
              refine uq (i := 11) rfl ?_
              try simp only [aP]
              refine uq (i := 12) rfl ?_
              try simp only [aP]
              refine rq 13 rfl fun K hK => ?_
              have d4 := HC.out _ F7.out
              have d5 := HZ.out _ F7.out
              have HF := Lib.hid (fun q v0 => HFIN1.out _ q v0 F7.out)
              go_simp
              try go_wp2_with fail
              refine hK.out _ _ trivial (fun hHeld => ?_)
              clear hK K d4 d5
              try simp only [aP]
              refine dq ?_
              go_wp2
              go_ret2
              exact HF.out _ _
            · go_simp
              try go_wp2_with fail
              refine hK.out _ _ trivial (fun hHeld => ?_)
              clear hK K
              try simp only [aP]
              refine rq 4 rfl fun K hK => ?_
              have d3 := (HC.out _ F7.out)
              go_simp
              try go_wp2_with fail
              refine hK.out _ _ trivial (fun hHeld => ?_)
              clear hK K d3
              try simp only [aP]
              refine uq (i := 10) rfl ?_
              try simp only [aP]
              refine uq (i := 11) rfl ?_
              try simp only [aP]
              refine uq (i := 12) rfl ?_
              try simp only [aP]
              refine rq 13 rfl fun K hK => ?_
              have d4 := HC.out _ F7.out
              have d5 := HZ.out _ F7.out
              have HF := Lib.hid (fun q v0 => HFIN1.out _ q v0 F7.out)
              go_simp
              try go_wp2_with fail
              refine hK.out _ _ trivial (fun hHeld => ?_)
              clear hK K d4 d5
              try simp only [aP]
              refine dq ?_
              go_wp2
              go_ret2
              exact HF.out _ _
        · go_simp
          (go_at_call 22; refine (below_can (hc.draws F0.out.dr) 4 (by decide) (by decide)).mono ?_; rintro e w7 ⟨x7, rfl, hx7, d7⟩)
          try go_wp2_with fail
          have F7 := Lib.hid (HPD.out _ _ F0.out d7)
          refine hK.out _ _ trivial (fun hHeld => ?_)
          clear hK K d7
          try simp only [aP]
          refine wpAnyH_ready (rs := [4, 5]) (by kernel_rfl) (by simp) ?_
          refine cq rfl (fun K hK => ?_) (cq rfl (fun K hK => ?_) AllReadyH.nil)
          · have d3 := (HC.out _ F7.out)
            go_simp
            try go_wp2_with fail
            refine hK.out _ _ trivial (fun hHeld => ?_)
            clear hK K d3
            try simp only [aP]
            refine rq 5 rfl fun K hK => ?_
            have F5 := Lib.hid (HPB.out _ _ F7.out ((Below.refl _ w7).alloc (Nat.le_refl _) (.cells #[.int .i64 1, .int .i64 (-1), .int .i64 268435456, .int .i64 4611686018427387904] 2)))
            have T5 := Lib.hid (HTN.out w7)
            go_simp
            try go_wp2_with fail
            refine hK.out _ _ trivial (fun hHeld => ?_)
            clear hK K
            try simp only [aP]
            obtain ⟨y9, hy9⟩ := T5.out x7 hx7
            have hx7' : (x7 : Int) < 4 := by omega
            have hx70 : (0 : Int) ≤ (x7 : Int) := by omega
            refine uq (i := 8) rfl ?_
            try simp only [aP]
            refine rq 9 rfl fun K hK => ?_
            go_simp
            try go_wp2_with fail
            refine hK.out _ _ trivial (fun hHeld => ?_)
            clear hK K
            try simp only [aP]
            refine uq (i := 10) rfl ?_
            try simp only [aP]
            refine uq (i := 11) rfl ?_
            try simp only [aP]
            refine uq (i := 12) rfl ?_
            try simp only [aP]
            refine rq 13 rfl fun K hK => ?_
            have d4 := HC.out _ F5.out
            have d5 := HZ.out _ F5.out
            have HF := Lib.hid (fun q v0 => HFIN1.out _ q v0 F5.out)
            go_simp
            try go_wp2_with fail
            refine hK.out _ _ trivial (fun hHeld => ?_)
            clear hK K d4 d5
            try simp only [aP]
            refine dq ?_
            go_wp2
            go_ret2
            exact HF.out _ _
          · have F5 := Lib.hid (HPB.out _ _ F7.out ((Below.refl _ w7).alloc (Nat.le_refl _) (.cells #[.int .i64 1, .int .i64 (-1), .int .i64 268435456, .int .i64 4611686018427387904] 2)))
            have T5 := Lib.hid (HTN.out w7)
            go_simp
            try go_wp2_with fail
            refine hK.out _ _ trivial (fun hHeld => ?_)
            clear hK K
            try simp only [aP]
            obtain ⟨y9, hy9⟩ := T5.out x7 hx7
            have hx7' : (x7 : Int) < 4 := by omega
            have hx70 : (0 : Int) ≤ (x7 : Int) := by omega
            refine uq (i := 8) rfl ?_
            try simp only [aP]
            refine wpAnyH_ready (rs := [4, 9]) (by kernel_rfl) (by simp) ?_
            refine cq rfl (fun K hK => ?_) (cq rfl (fun K hK => ?_) AllReadyH.nil)
            · have d3 := (HC.out _ F5.out)
              go_simp
              try go_wp2_with fail
              refine hK.out _ _ trivial (fun hHeld => ?_)
              clear hK K d3
              try simp only [aP]
              refine rq 9 rfl fun K hK => ?_
              go_simp
              try go_wp2_with fail
              refine hK.out _ _ trivial (fun hHeld => ?_)
              clear hK K
              try simp only [aP]
              refine uq (i := 10) rfl ?_
              try simp only [aP]
              refine uq (i := 11) rfl ?_
              try simp only [aP]
              refine uq (i := 12) rfl ?_
              try simp only [aP]
              refine rq 13 rfl fun K hK => ?_
              have d4 := HC.out _ F5.out
              have d5 := HZ.out _ F5.out
              have HF := Lib.hid (fun q v0 => HFIN1.out _ q v0 F5.out)
              go_simp
              try go_wp2_with fail
              refine hK.out _ _ trivial (fun hHeld => ?_)
              clear hK K d4 d5
              try simp only [aP]
              refine dq ?_
              go_wp2
              go_ret2
              exact HF.out _ _
            · go_simp
              try go_wp2_with fail
              refine hK.out _ _ trivial (fun hHeld => ?_)
              clear hK K
              try simp only [aP]
              refine rq 4 rfl fun K hK => ?_
              have d3 := (HC.out _ F5.out)
              go_simp
              try go_wp2_with fail
              refine hK.out _ _ trivial (fun hHeld => ?_)
              clear hK K d3
              try simp only [aP]
              refine uq (i := 10) rfl ?_
              try simp only [aP]
              refine uq (i := 11) rfl ?_
              try simp only [aP]
              refine uq (i := 12) rfl ?_
              try simp only [aP]
              refine rq 13 rfl fun K hK => ?_
              have d4 := HC.out _ F5.out
              have d5 := HZ.out _ F5.out
              have HF := Lib.hid (fun q v0 => HFIN1.out _ q v0 F5.out)
              go_simp
              try go_wp2_with fail
              refine hK.out _ _ trivial (fun hHeld => ?_)
              clear hK K d4 d5
              try simp only [aP]
              refine dq ?_
              go_wp2
              go_ret2
              exact HF.out _ _
      · by_cases hz1 : x5 = 1
        · subst hz1
          clear HFIN0 HFIN1
          have HC : Hid (∀ W, PS w W c a n cap G zs cp → W.cell? ⟨G, i * 4 + 2, none⟩ = some (.int .i64 z.x.n)) := fun W h => h.cell2 HX.out
          have HZ : Hid (∀ W, PS w W c a n cap G zs cp → W.frozen? ⟨G, i * 4 + 2, none⟩ = false) := fun W h => h.frz _
          have F0 : Hid (PS w w5.drew c a n cap G zs cp) := HPB.out _ _ F00.out (Below.refl _ _).drew
          go_wp2_with fail
          refine wq 14 (S := fun _ => True) (by kernel_rfl) trivial fun hHeld => ?_
          refine uq (i := 0) rfl ?_
          try simp only [aP]
          refine uq (i := 1) rfl ?_
          try simp only [aP]
          refine uq (i := 2) rfl ?_
          try simp only [aP]
          refine uq (i := 3) rfl ?_
          try simp only [aP]
          refine uq (i := 6) rfl ?_
          try simp only [aP]
          refine wpAnyH_ready (rs := [4, 5, 7]) (by kernel_rfl) (by simp) ?_
          refine cq rfl (fun K hK => ?_) (cq rfl (fun K hK => ?_) (cq rfl (fun K hK => ?_) AllReadyH.nil))
          · have d3 := (HC.out _ F0.out)
            go_simp
            try go_wp2_with fail
            refine hK.out _ _ trivial (fun hHeld => ?_)
            clear hK K d3
            try simp only [aP]
            refine wpAnyH_ready (rs := [5, 7]) (by kernel_rfl) (by simp) ?_
            refine cq rfl (fun K hK => ?_) (cq rfl (fun K hK => ?_) AllReadyH.nil)
            · have F5 : Hid (PS w (w5.alloc (.cells #[.int .i64 1, .int .i64 (-1), .int .i64 268435456, .int .i64 4611686018427387904] 2)).drew c a n cap G zs cp) := HPB.out _ _ F00.out (((Below.refl _ _).alloc (Nat.le_refl _) _).drew)
              have T5 := Lib.hid (HTD.out (w5.alloc (.cells #[.int .i64 1, .int .i64 (-1), .int .i64 268435456, .int .i64 4611686018427387904] 2)) (HTN.out w5))
              have htc : w5.heap.size ≠ c := by omega
              go_simp
              try go_wp2_with fail
              refine hK.out _ _ trivial (fun hHeld => ?_)
              clear hK K
              try simp only [aP]
              refine rq 7 rfl fun K hK => ?_
              go_simp
              (go_at_call 22; refine (below_can (hc.draws F5.out.dr) 4 (by decide) (by decide)).mono ?_; rintro e w7 ⟨x7, rfl, hx7, d7⟩)
              try go_wp2_with fail
              have F7 := Lib.hid (HPD.out _ _ F5.out d7)
              have T7 := Lib.hid (HTW.out _ _ _ htc T5.out d7)
              refine hK.out _ _ trivial (fun hHeld => ?_)
              clear hK K d7
              try simp only [aP]
              obtain ⟨y9, hy9⟩ := T7.out x7 hx7
              have hx7' : (x7 : Int) < 4 := by omega
              have hx70 : (0 : Int) ≤ (x7 : Int) := by omega
              refine uq (i := 8) rfl ?_
              try simp only [aP]
              refine rq 9 rfl fun K hK => ?_
              go_simp
              try go_wp2_with fail
              refine hK.out _ _ trivial (fun hHeld => ?_)
              clear hK K
              try simp only [aP]
              refine uq (i := 10) rfl ?_
              try simp only [aP]
              refine uq (i := 11) rfl ?_
              try simp only [aP]
              refine uq (i := 12) rfl ?_
              try simp only [aP]
              refine rq 13 rfl fun K hK => ?_
              have d4 := HC.out _ F7.out
              have d5 := HZ.out _ F7.out
              have HF := Lib.hid (fun q v0 => HFIN2.out _ q v0 F7.out)
              go_simp
              try go_wp2_with fail
              refine hK.out _ _ trivial (fun hHeld => ?_)
              clear hK K d4 d5
              try simp only [aP]
              refine dq ?_
              go_wp2
              go_ret2
              exact HF.out _ _
            · go_simp
              (go_at_call 22; refine (below_can (hc.draws F0.out.dr) 4 (by decide) (by decide)).mono ?_; rintro e w7 ⟨x7, rfl, hx7, d7⟩)
              try go_wp2_with fail
              have F7 := Lib.hid (HPD.out _ _ F0.out d7)
              refine hK.out _ _ trivial (fun hHeld => ?_)
              clear hK K d7
              try simp only [aP]
              refine rq 5 rfl fun K hK => ?_
              have F5 := Lib.hid (HPB.out _ _ F7.out ((Below.refl _ w7).alloc (Nat.le_refl _) (.cells #[.int .i64 1, .int .i64 (-1), .int .i64 268435456, .int .i64 4611686018427387904] 2)))
              have T5 := Lib.hid (HTN.out w7)
              go_simp
              try go_wp2_with fail
              refine hK.out _ _ trivial (fun hHeld => ?_)
              clear hK K
              try simp only [aP]
              obtain ⟨y9, hy9⟩ := T5.out x7 hx7
              have hx7' : (x7 : Int) < 4 := by omega
              have hx70 : (0 : Int) ≤ (x7 : Int) := by omega
              refine uq (i := 8) rfl ?_
              try simp only [aP]
              refine rq 9 rfl fun K hK => ?_
              go_simp
              try go_wp2_with fail
              refine hK.out _ _ trivial (fun hHeld => ?_)
              clear hK K
              try simp only [aP]
              refine uq (i := 10) rfl ?_
              try simp only [aP]
              refine uq (i := 11) rfl ?_
              try simp only [aP]
              refine uq (i := 12) rfl ?_
              try simp only [aP]
              refine rq 13 rfl fun K hK => ?_
              have d4 := HC.out _ F5.out
              have d5 := HZ.out _ F5.out
              have HF := Lib.hid (fun q v0 => HFIN2.out _ q v0 F5.out)
              go_simp
              try go_wp2_with fail
              refine hK.out _ _ trivial (fun hHeld => ?_)
              clear hK K d4 d5
              try simp only [aP]
              refine dq ?_
              go_wp2
              go_ret2
              exact HF.out _ _
          · have F5 : Hid (PS w (w5.alloc (.cells #[.int .i64 1, .int .i64 (-1), .int .i64 268435456, .int .i64 4611686018427387904] 2)).drew c a n cap G zs cp) := HPB.out _ _ F00.out (((Below.refl _ _).alloc (Nat.le_refl _) _).drew)
            have T5 := Lib.hid (HTD.out (w5.alloc (.cells #[.int .i64 1, .int .i64 (-1), .int .i64 268435456, .int .i64 4611686018427387904] 2)) (HTN.out w5))
            have htc : w5.heap.size ≠ c := by omega
            go_simp
            try go_wp2_with fail
            refine hK.out _ _ trivial (fun hHeld => ?_)
            clear hK K
            try simp only [aP]
            refine wpAnyH_ready (rs := [4, 7]) (by kernel_rfl) (by simp) ?_
            refine cq rfl (fun K hK => ?_) (cq rfl (fun K hK => ?_) AllReadyH.nil)
            · have d3 := (HC.out _ F5.out)
              go_simp
              try go_wp2_with fail
              refine hK.out _ _ trivial (fun hHeld => ?_)
              clear hK K d3
              try simp only [aP]
              refine rq 7 rfl fun K hK => ?_
              go_simp
              (go_at_call 22; refine (below_can (hc.draws F5.out.dr) 4 (by decide) (by decide)).mono ?_; rintro e w7 ⟨x7, rfl, hx7, d7⟩)
              try go_wp2_with fail
              have F7 := Lib.hid (HPD.out _ _ F5.out d7)
              have T7 := Lib.hid (HTW.out _ _ _ htc T5.out d7)
              refine hK.out _ _ trivial (fun hHeld => ?_)
              clear hK K d7
              try simp only [aP]
              obtain ⟨y9, hy9⟩ := T7.out x7 hx7
              have hx7' : (x7 : Int) < 4 := by omega
              have hx70 : (0 : Int) ≤ (x7 : Int) := by omega
              refine uq (i := 8) rfl ?_
              try simp only [aP]
              refine rq 9 rfl fun K hK => ?_
              go_simp
              try go_wp2_with fail
              refine hK.out _ _ trivial (fun hHeld => ?_)
              clear hK K
              try simp only [aP]
              refine uq (i := 10) rfl ?_
              try simp only [aP]
              refine uq (i := 11) rfl ?_
              try simp only [aP]
              refine uq (i := 12) rfl ?_
              try simp only [aP]
              refine rq 13 rfl fun K hK => ?_
              have d4 := HC.out _ F7.out
              have d5 := HZ.out _ F7.out
              have HF := Lib.hid (fun q v0 => HFIN2.out _ q v0 F7.out)
              go_simp
              try go_wp2_with fail
              refine hK.out _ _ trivial (fun hHeld => ?_)
              clear hK K d4 d5
              try simp only [aP]
              refine dq ?_
              go_wp2
              go_ret2
              exact HF.out _ _
            · go_simp
              (go_at_call 22; refine (below_can (hc.draws F5.out.dr) 4 (by decide) (by decide)).mono ?_; rintro e w7 ⟨x7, rfl, hx7, d7⟩)
              try go_wp2_with fail
              have F7 := Lib.hid (HPD.out _ _ F5.out d7)
              have T7 := Lib.hid (HTW.out _ _ _ htc T5.out d7)
              refine hK.out _ _ trivial (fun hHeld => ?_)
              clear hK K d7
              try simp only [aP]
              obtain ⟨y9, hy9⟩ := T7.out x7 hx7
              have hx7' : (x7 : Int) < 4 := by omega
              have hx70 : (0 : Int) ≤ (x7 : Int) := by omega
              refine uq (i := 8) rfl ?_
              try simp only [aP]
              refine wpAnyH_ready (rs := [4, 9]) (by kernel_rfl) (by simp) ?_
              refine cq rfl (fun K hK => ?_) (cq rfl (fun K hK => ?_) AllReadyH.nil)
              · have d3 := (HC.out _ F7.out)
                go_simp
                try go_wp2_with fail
                refine hK.out _ _ trivial (fun hHeld => ?_)
                clear hK K d3
                try simp only [aP]
                refine rq 9 rfl fun K hK => ?_
                go_simp
                try go_wp2_with fail
                refine hK.out _ _ trivial (fun hHeld => ?_)
                clear hK K
                try simp only [aP]
                refine uq (i := 10) rfl ?_
                try simp only [aP]
                refine uq (i := 11) rfl ?_
                try simp only [aP]
                refine uq (i := 12) rfl ?_
                try simp only [aP]
                refine rq 13 rfl fun K hK => ?_
                have d4 := HC.out _ F7.out
                have d5 := HZ.out _ F7.out
                have HF := Lib.hid (fun q v0 => HFIN2.out _ q v0 F7.out)
                go_simp
                try go_wp2_with fail
                refine hK.out _ _ trivial (fun hHeld => ?_)
                clear hK K d4 d5
                try simp only [aP]
                refine dq ?_
                go_wp2
                go_ret2
                exact HF.out _ _
              · go_simp
                try go_wp2_with fail
                refine hK.out _ _ trivial (fun hHeld => ?_)
                clear hK K
                try simp only [aP]
                refine rq 4 rfl fun K hK => ?_
                have d3 := (HC.out _ F7.out)
                go_simp
                try go_wp2_with fail
                refine hK.out _ _ trivial (fun hHeld => ?_)
                clear hK K d3
                try simp only [aP]
                refine uq (i := 10) rfl ?_
                try simp only [aP]
                refine uq (i := 11) rfl ?_
                try simp only [aP]
                refine uq (i := 12) rfl ?_
                try simp only [aP]
                refine rq 13 rfl fun K hK => ?_
                have d4 := HC.out _ F7.out
                have d5 := HZ.out _ F7.out
                have HF := Lib.hid (fun q v0 => HFIN2.out _ q v0 F7.out)
                go_simp
                try go_wp2_with fail
                refine hK.out _ _ trivial (fun hHeld => ?_)
                clear hK K d4 d5
                try simp only [aP]
                refine dq ?_
                go_wp2
                go_ret2
                exact HF.out _ _
          · go_simp
            (go_at_call 22; refine (below_can (hc.draws F0.out.dr) 4 (by decide) (by decide)).mono ?_; rintro e w7 ⟨x7, rfl, hx7, d7⟩)
            try go_wp2_with fail
            have F7 := Lib.hid (HPD.out _ _ F0.out d7)
            refine hK.out _ _ trivial (fun hHeld => ?_)
            clear hK K d7
            try simp only [aP]
            refine wpAnyH_ready (rs := [4, 5]) (by kernel_rfl) (by simp) ?_
            refine cq rfl (fun K hK => ?_) (cq rfl (fun K hK => ?_) AllReadyH.nil)
            · have d3 := (HC.out _ F7.out)
              go_simp
              try go_wp2_with fail
              refine hK.out _ _ trivial (fun hHeld => ?_)
              clear hK K d3
              try simp only [aP]
              refine rq 5 rfl fun K hK => ?_
              have F5 := Lib.hid (HPB.out _ _ F7.out ((Below.refl _ w7).alloc (Nat.le_refl _) (.cells #[.int .i64 1, .int .i64 (-1), .int .i64 268435456, .int .i64 4611686018427387904] 2)))
              have T5 := Lib.hid (HTN.out w7)
              go_simp
              try go_wp2_with fail
              refine hK.out _ _ trivial (fun hHeld => ?_)
              clear hK K
              try simp only [aP]
              obtain ⟨y9, hy9⟩ := T5.out x7 hx7
              have hx7' : (x7 : Int) < 4 := by omega
              have hx70 : (0 : Int) ≤ (x7 : Int) := by omega
              refine uq (i := 8) rfl ?_
              try simp only [aP]
              refine rq 9 rfl fun K hK => ?_
              go_simp
              try go_wp2_with fail
              refine hK.out _ _ trivial (fun hHeld => ?_)
              clear hK K
              try simp only [aP]
              refine uq (i := 10) rfl ?_
              try simp only [aP]
              refine uq (i := 11) rfl ?_
              try simp only [aP]
              refine uq (i := 12) rfl ?_
              try simp only [aP]
              refine rq 13 rfl fun K hK => ?_
              have d4 := HC.out _ F5.out
              have d5 := HZ.out _ F5.out
              have HF := Lib.hid (fun q v0 => HFIN2.out _ q v0 F5.out)
              go_simp
              try go_wp2_with fail
              refine hK.out _ _ trivial (fun hHeld => ?_)
              clear hK K d4 d5
              try simp only [aP]
              refine dq ?_
              go_wp2
              go_ret2
              exact HF.out _ _
            · have F5 := Lib.hid (HPB.out _ _ F7.out ((Below.refl _ w7).alloc (Nat.le_refl _) (.cells #[.int .i64 1, .int .i64 (-1), .int .i64 268435456, .int .i64 4611686018427387904] 2)))
              have T5 := Lib.hid (HTN.out w7)
              go_simp
              try go_wp2_with fail
              refine hK.out _ _ trivial (fun hHeld => ?_)
              clear hK K
              try simp only [aP]
              obtain ⟨y9, hy9⟩ := T5.out x7 hx7
              have hx7' : (x7 : Int) < 4 := by omega
              have hx70 : (0 : Int) ≤ (x7 : Int) := by omega
              refine uq (i := 8) rfl ?_
              try simp only [aP]
              refine wpAnyH_ready (rs := [4, 9]) (by kernel_rfl) (by simp) ?_
              refine cq rfl (fun K hK => ?_) (cq rfl (fun K hK => ?_) AllReadyH.nil)
              · have d3 := (HC.out _ F5.out)
                go_simp
                try go_wp2_with fail
                refine hK.out _ _ trivial (fun hHeld => ?_)
                clear hK K d3
                try simp only [aP]
                refine rq 9 rfl fun K hK => ?_
                go_simp
                try go_wp2_with fail
                refine hK.out _ _ trivial (fun hHeld => ?_)
                clear hK K
                try simp only [aP]
                refine uq (i := 10) rfl ?_
                try simp only [aP]
                refine uq (i := 11) rfl ?_
                try simp only [aP]
                refine uq (i := 12) rfl ?_
                try simp only [aP]
                refine rq 13 rfl fun K hK => ?_
                have d4 := HC.out _ F5.out
                have d5 := HZ.out _ F5.out
                have HF := Lib.hid (fun q v0 => HFIN2.out _ q v0 F5.out)
                go_simp
                try go_wp2_with fail
                refine hK.out _ _ trivial (fun hHeld => ?_)
                clear hK K d4 d5
                try simp only [aP]
                refine dq ?_
                go_wp2
                go_ret2
                exact HF.out _ _
              · go_simp
                try go_wp2_with fail
                refine hK.out _ _ trivial (fun hHeld => ?_)
                clear hK K
                try simp only [aP]
                refine rq 4 rfl fun K hK => ?_
                have d3 := (HC.out _ F5.out)
                go_simp
                try go_wp2_with fail
                refine hK.out _ _ trivial (fun hHeld => ?_)
                clear hK K d3
                try simp only [aP]
                refine uq (i := 10) rfl ?_
                try simp only [aP]
                refine uq (i := 11) rfl ?_
                try simp only [aP]
                refine uq (i := 12) rfl ?_
                try simp only [aP]
                refine rq 13 rfl fun K hK => ?_
                have d4 := HC.out _ F5.out
                have d5 := HZ.out _ F5.out
                have HF := Lib.hid (fun q v0 => HFIN2.out _ q v0 F5.out)
                go_simp
                try go_wp2_with fail
                refine hK.out _ _ trivial (fun hHeld => ?_)
                clear hK K d4 d5
                try simp only [aP]
                refine dq ?_
                go_wp2
                go_ret2
                exact HF.out _ _
        · by_cases hz2 : x5 = 2
          · subst hz2
            clear HFIN1 HFIN2
            go_wp2_with (go_at_call 22; refine (below_can (hc.draws F00.out.dr) 4 (by decide) (by decide)).mono ?_; rintro e w7 ⟨x7, rfl, hx7, d7⟩; refine Hid.out ?_)
            refine Lib.hid ?_
            have F7 := Lib.hid (HPD.out _ _ F00.out d7)
            have d4 := F7.out.cell0 HX.out
            have d5 := F7.out.frz (i * 4)
            have HF := Lib.hid (fun v0 => HFIN0.out _ (x7 : Int) v0 F7.out)
            clear d7
            go_wp2
            go_ret2
            exact HF.out _
          · obtain rfl : x5 = 3 := by omega
            clear HFIN0 HFIN1 HFIN2 HTN HTD HTW
            have hGl := F00.out.lt
            by_cases hd : z.x.d = []
            · obtain ⟨hza, hzc⟩ := F00.out.nil z (List.mem_of_getElem? HX.out) hd
              have d3 : w5.cell? ⟨G, i * 4 + 3, none⟩ = some (.slice none 0 0) := by have := F00.out.cell3 HX.out; rw [hza, hzc, hd] at this; exact this
              have f3 := F00.out.frz (i * 4 + 3)
              obtain ⟨ti, hti, htz⟩ := Option.map_eq_some_iff.1 dr.info5
              simp only [Prod.mk.injEq] at htz
              obtain ⟨ht1, ht2, ht3⟩ := htz
              have HAP : Hid (∀ {ops : Array Oper} {rest : List Oper} {o : Oper} {act : Act} {Q : Exit → Act → World → Prop} (hgd : o.guard = none) (s x : Operand) (ho : o.op = .call { callee := .builtin .append, args := #[s, x], argTypes := #[22, 22] }) (hs : act.eval s = .slice none 0 0) (hx : act.eval x = .slice (some ⟨w5.heap.size, 0, none⟩) 1 1), (∀ g' c' w', w5.heap.size ≤ g' → w'.cell? ⟨g', 0, none⟩ = some (.int .u8 1) → w5.grownBy w' none → wpList Try.prog ops Q rest (act.put o.dst (.slice (some ⟨g', 0, none⟩) 1 c')) w') → wpList Try.prog ops Q (o :: rest) act (w5.alloc (.cells #[.int .u8 1] 5))) := fun {ops rest o act Q} hgd s x ho hs hx hk => by
                refine wpList_append_own_at _ hgd s x 22 ho w5.heap.size 5 ti _ 1 1 Try.underlying22 hti ht1 ht2 ht3 rfl (by decide) (.slice none 0 0) 0 [] hs (World.ownsRow_nil _ _ _ _) ⟨w5.heap.size, 0, none⟩ 1 1 [.int .u8 1] hx rfl (cell_one_new w5 _ _) (fun u hu => by simp only [List.mem_singleton] at hu; subst hu; rfl) (by unfold maxLen; omega) (by omega) (by simp) (fun v' w' p q r r2 => ?_)
                rcases p.2 with ⟨_, h0⟩ | ⟨g', c', cur, rfl, hgb, _⟩
                · omega
                · have hcl := World.ownsRow.cells p (g := g') rfl 0 (.int .u8 1) rfl
                  rw [addr_add, Nat.zero_add] at hcl
                  exact hk g' c' w' hgb hcl ((World.grownBy_alloc w5 _ none).trans q)
              have HFIN : Hid (∀ (g' c' : Nat) (w' : World) (v0 : Value), w5.heap.size ≤ g' → w'.cell? ⟨g', 0, none⟩ = some (.int .u8 1) → w5.grownBy w' none → FS w (w'.setCell ⟨G, i * 4 + 3, none⟩ (.slice (some ⟨g', 0, none⟩) 1 c')) c a n cap v0 G m cp) := fun g' c' w' v0 h1 h2 h3 => by
                have := F00.out.fin3 (W0 := w5) (v0 := v0) (g' := g') (c' := c') (row := none) HWT.out hc hcw HX.out h3 (fun g e => by cases e) (fun j hj => by
                  rw [hd] at hj
                  have hj0 : j = 0 := by simpa using hj
                  subst hj0
                  rw [h2]
                  simp [hd]) (by omega)
                rw [hd] at this
                rw [← HM.out]
                exact this
              have HGB : Hid (∀ w', w5.grownBy w' none → w'.cell? ⟨G, i * 4 + 3, none⟩ = some (.slice none 0 0) ∧ w'.frozen? ⟨G, i * 4 + 3, none⟩ = false) := fun w' h => by
                have hb := h.block G hGl.2 (by simp)
                exact ⟨(World.cell?_of_block (a := ⟨G, i * 4 + 3, none⟩) hb).trans d3, (World.frozen?_of_block (a := ⟨G, i * 4 + 3, none⟩) hb).trans f3⟩
              clear hza hzc hd hti ht1 ht2 ht3
              go_wp2_with (at_builtin; refine HAP.out rfl _ _ rfl rfl rfl ?_; intro g8 c8 w8 k1 k2 k3; refine Hid.out ?_)
              refine Lib.hid ?_
              obtain ⟨e3, e4⟩ := HGB.out _ k3
              have HF := Lib.hid (fun v0 => HFIN.out g8 c8 w8 v0 k1 k2 k3)
              clear k1 k2 k3 d3 f3
              go_wp2
              go_ret2
              exact HF.out _
            · obtain ⟨g, hza, ho, hbg⟩ := F00.out.row.dat i z HX.out hd
              have hgG := F00.out.row.apart ho hd
              have d3 : w5.cell? ⟨G, i * 4 + 3, none⟩ = some (.slice (some ⟨g, 0, none⟩) z.x.d.length z.c) := by have := F00.out.cell3 HX.out; rw [hza] at this; exact this
              have f3 := F00.out.frz (i * 4 + 3)
              have HBA : Hid (Bf w.heap.size (w5.alloc (.cells #[.int .u8 1] 5)) g z.c z.x.d) := (ho.bf hbg).below ((Below.refl _ _).alloc (Nat.le_refl _) _)
              have hdl : z.x.d.length ≤ 6000 := Nat.le_trans (wt_d (ss := xs zs) (List.mem_of_getElem? (xs_some HX.out))) HWT.out
              have HFIN : Hid (∀ (g' c' : Nat) (w' : World) (v0 : Value), Ap w.heap.size (w5.alloc (.cells #[.int .u8 1] 5)) g w' g' c' (z.x.d ++ [1]) → FS w (w'.setCell ⟨G, i * 4 + 3, none⟩ (.slice (some ⟨g', 0, none⟩) (z.x.d.length + 1) c')) c a n cap v0 G m cp ∧ w'.cell? ⟨G, i * 4 + 3, none⟩ = some (.slice (some ⟨g, 0, none⟩) z.x.d.length z.c) ∧ w'.frozen? ⟨G, i * 4 + 3, none⟩ = false) := fun g' c' w' v0 hA => by
                have hgr : w5.grownBy w' (some g) := (World.grownBy_alloc w5 _ (some g)).trans hA.grown
                have hb := hgr.block G hGl.2 (by simp; exact fun e => hgG e.symm)
                refine ⟨?_, (World.cell?_of_block (a := ⟨G, i * 4 + 3, none⟩) hb).trans d3, (World.frozen?_of_block (a := ⟨G, i * 4 + 3, none⟩) hb).trans f3⟩
                rw [← HM.out]
                exact F00.out.fin3 (W0 := w5) (row := some g) HWT.out hc hcw HX.out hgr (fun q e => by cases e; exact ⟨hza, hd⟩) hA.bf.cells (by
                  rcases hA.here with e | e
                  · rw [e]; exact hgG
                  · simp at e; omega)
              have HNW : Hid (∀ j u, (bf.byteVals [1])[j]? = some u → (w5.alloc (.cells #[.int .u8 1] 5)).cell? ((⟨w5.heap.size, 0, none⟩ : Addr).add j) = some u) := bytes_new w5 [1]
              clear hza ho hbg
              go_wp2_with (at_builtin; refine bf.app_bytes _ rfl _ _ 22 rfl 5 Try.underlying22 dr.info5 rfl rfl ⟨w5.heap.size, 0, none⟩ 1 rfl (m := [1]) rfl HBA.out HNW.out (by simp; omega) ?_; intro g8 c8 w8 n8 hn8 hA8; refine Hid.out ?_)
              refine Lib.hid ?_
              obtain rfl : n8 = z.x.d.length + 1 := by rw [hn8.out]; simp
              have HF := Lib.hid (fun v0 => (HFIN.out g8 c8 w8 v0 hA8).1)
              obtain ⟨_, e3, e4⟩ := HFIN.out g8 c8 w8 undef hA8
              clear hn8 hA8 d3 f3
              go_wp2
              go_ret2
              exact HF.out _
    · have h0' : ¬ 0 < (m : Int) := by omega
      have HF := Lib.hid (fun v0 => HRET.out _ v0 HP3.out)
      go_wp2
      go_ret2
      exact HF.out _

end Go.Proofs.Ytogakignaaoklaa.dl
