import Derived.Test.YtjbdklkingfmpaaGreatDoorLqr
import Derived.Test.YtjbdklkingfmpaaGreatDoorWP3r
import Derived.Deep.Cut
import Derived.Deep.CutBlock
import Derived.Deep.CutRange
set_option linter.unusedVariables false
set_option linter.unusedSimpArgs false
set_option maxRecDepth 100000
set_option maxHeartbeats 16000000
namespace Go.Proofs.YtjbdklkingfmpaaGreatDoor.so
open Go.ChangeShapes Go.WideShapes Go.ChangeAt Go.RowKit Go.Deep Go.Shelf Go.Maps
def f4 (v0 v1 v2 v3 : Value) : Nat → Value
 | 0 => v0
 | 1 => v1
 | 2 => v2
 | _ => v3
def CpR (w : World) (e : Ending) (st : List ty.It) (pr : List ty.Pr) : Prop := ∃ g0 c0 g1 c1 a2 n2 c2 a3 n3 c3, e = .returned (.agg #[.slice (some ⟨g0, 0, none⟩) st.length c0, .slice (some ⟨g1, 0, none⟩) pr.length c1, .slice a2 n2 c2, .slice a3 n3 c3]) ∧ CpZ w (.slice (some ⟨g0, 0, none⟩) st.length c0) st ∧ CpQ w (.slice (some ⟨g1, 0, none⟩) pr.length c1) pr
structure OutR (w0 : World) (st : List ty.It) (pr : List ty.Pr) (ob : Nat) (v0 v1 v2 v3 : Value) (W : World) : Prop where
 row : W.rowIs ob 36 4 (f4 v0 v1 v2 v3)
 z : CpZ W v0 st
 q : CpQ W v1 pr
 b : Below w0.heap.size w0 W
 lo : w0.heap.size ≤ ob
theorem nx_nil (w : World) : (w.alloc (.cells #[] 92)).ownsRow w.heap.size 92 2 (.slice (some ⟨w.heap.size, 0, none⟩) 0 0) 0 [] := ⟨rfl, .inr ⟨w.heap.size, 0, #[], rfl, Nat.le_refl _, heap_alloc_new w _, Nat.le_refl _, Nat.zero_le _, by simp, by simp⟩⟩
theorem own_row {W : World} {base e size n g c : Nat} {xs : List Value} (h : W.ownsRow base e size (.slice (some ⟨g, 0, none⟩) n c) n xs) : ∃ N f, W.rowIs g e N f := by
 rcases h.2 with ⟨h1, _⟩ | ⟨g', c', cur, h1, _, h3, _⟩
 ·cases h1
 ·cases h1
  exact ⟨cur.size, fun i => cur[i]?.getD undef, cur, h3, rfl, fun i hi => by have hq : cur[i]? = some (cur[i]'hi) := Array.getElem?_eq_getElem _; simp [hq]⟩
theorem nx_row {W : World} {g : Nat} (h : W.ownsRow g 92 2 (.slice (some ⟨g, 0, none⟩) 0 0) 0 []) : ∃ N f, W.rowIs g 92 N f := own_row h
theorem wz_row (w : World) : (w.alloc (.cells #[.slice none 0 0, .slice none 0 0, .slice none 0 0, .slice none 0 0] 36)).rowIs w.heap.size 36 4 (f4 (.slice none 0 0) (.slice none 0 0) (.slice none 0 0) (.slice none 0 0)) := World.rowIs_alloc w _ _ _ (fun i hi => by
 match i, hi with
 | 0, _ => rfl
 | 1, _ => rfl
 | 2, _ => rfl
 | 3, _ => rfl)
theorem below_some {w0 W W' : World} {g : Nat} (h : Below w0.heap.size w0 W) (hg : W.grownBy W' (some g)) (hl : w0.heap.size ≤ g) : Below w0.heap.size w0 W' := ⟨hg.os.trans h.os, hg.tape.trans h.tape, hg.output.trans h.output, Nat.le_trans h.size hg.size, fun p hp => (hg.block p (Nat.lt_of_lt_of_le hp h.size) (fun e => by have e := Option.some.inj e; omega)).trans (h.block p hp)⟩
theorem below_set {w0 W : World} {g i : Nat} {v : Value} (h : Below w0.heap.size w0 W) (hl : w0.heap.size ≤ g) : Below w0.heap.size w0 (W.setCell ⟨g, i, none⟩ v) := ⟨h.os, h.tape, h.output, by rw [World.size_setCell]; exact h.size, fun p hp => (blk_setCell_other _ _ _ _ (by show p ≠ g; omega)).trans (h.block p hp)⟩
theorem out_late {w0 yk : World} {st : List ty.It} {pr : List ty.Pr} {v0 v1 v3 : Value} (hD : Below w0.heap.size w0 yk) (hz : CpZ yk v0 st) (hq : CpQ yk v1 pr) : OutR w0 st pr yk.heap.size v0 v1 (.slice none 0 0) v3 (yk.alloc (.cells #[v0, v1, .slice none 0 0, v3] 36)) := by
 have hl : Below yk.heap.size yk (yk.alloc (.cells #[v0, v1, .slice none 0 0, v3] 36)) := (Below.refl _ _).alloc (Nat.le_refl _) _
 exact ⟨World.rowIs_alloc yk _ _ _ (fun i hi => by
  match i, hi with
  | 0, _ => rfl
  | 1, _ => rfl
  | 2, _ => rfl
  | 3, _ => rfl), hz.ext (Ext.below hl), hq.ext (Ext.below hl), hD.alloc hD.size _, hD.size⟩
theorem out_early {w0 yk : World} {st : List ty.It} {pr : List ty.Pr} {p : Nat} {f : Nat → Value} {v0 v1 v3 : Value} (hr : yk.rowIs p 36 4 f) (hD : Below w0.heap.size w0 yk) (hz : CpZ yk v0 st) (hq : CpQ yk v1 pr) (hp : w0.heap.size ≤ p) : OutR w0 st pr p v0 v1 (.slice none 0 0) v3 ((((yk.setCell ⟨p, 0, none⟩ v0).setCell ⟨p, 1, none⟩ v1).setCell ⟨p, 2, none⟩ (.slice none 0 0)).setCell ⟨p, 3, none⟩ v3) := by
 have r1 := hr.set 0 v0
 have r2 := r1.set 1 v1
 have r3 := r2.set 2 (.slice none 0 0)
 have r4 := r3.set 3 v3
 have x1 := Ext.set (i := 0) hr (.inr (.inr rfl)) v0
 have x2 := x1.trans (Ext.set (i := 1) r1 (.inr (.inr rfl)) v1)
 have x3 := x2.trans (Ext.set (i := 2) r2 (.inr (.inr rfl)) (.slice none 0 0))
 have x4 := x3.trans (Ext.set (i := 3) r3 (.inr (.inr rfl)) v3)
 exact ⟨r4.congr (fun i hi => by
  match i, hi with
  | 0, _ => rfl
  | 1, _ => rfl
  | 2, _ => rfl
  | 3, _ => rfl), hz.ext x4, hq.ext x4, below_set (below_set (below_set (below_set hD hp) hp) hp) hp, hp⟩
theorem ext_own {W W' : World} {base n : Nat} {v : Value} {xs : List Value} (h : W.ownsRow base 90 3 v n xs) (hg : W.grownBy W' v.ownBlock) : Ext W W' := by
 rcases h.2 with ⟨rfl, _⟩ | ⟨g, c, cur, rfl, _, h3, _⟩
 ·exact ⟨hg.size, fun p t N f hp _ => hg.block p hp.lt (by intro e; cases e)⟩
 ·exact Ext.grown (N := cur.size) (f := fun i => cur[i]?.getD undef) hg ⟨cur, h3, rfl, fun i hi => by have hq : cur[i]? = some (cur[i]'hi) := Array.getElem?_eq_getElem _; simp [hq]⟩ (.inr (.inl rfl))
theorem own_ne {W : World} {base n ob N g : Nat} {v : Value} {xs : List Value} {f : Nat → Value} (h : W.ownsRow base 90 3 v n xs) (hr : W.rowIs ob 36 N f) (e : v.ownBlock = some g) : ob ≠ g := by
 rintro rfl
 rcases h.2 with ⟨rfl, _⟩ | ⟨g, c, cur, rfl, _, h3, _⟩
 ·cases e
 ·have e : g = ob := Option.some.inj e
  subst e
  exact absurd (two_typesI (t' := 90) (N' := cur.size) (f' := fun i => cur[i]?.getD undef) hr ⟨cur, h3, rfl, fun i hi => by have hq : cur[i]? = some (cur[i]'hi) := Array.getElem?_eq_getElem _; simp [hq]⟩) (by decide)
theorem row_own {W W' : World} {base n ob N : Nat} {v : Value} {xs : List Value} {f : Nat → Value} (hr : W.rowIs ob 36 N f) (h : W.ownsRow base 90 3 v n xs) (hg : W.grownBy W' v.ownBlock) : W'.rowIs ob 36 N f := hr.of_block (hg.block ob hr.lt (fun e => own_ne h hr e.symm rfl))
theorem own_set {W : World} {base n ob N i : Nat} {v u : Value} {xs : List Value} {f : Nat → Value} (h : W.ownsRow base 90 3 v n xs) (hr : W.rowIs ob 36 N f) : (W.setCell ⟨ob, i, none⟩ u).ownsRow base 90 3 v n xs := by
 refine ⟨h.1, ?_⟩
 rcases h.2 with h1 | ⟨g, c, cur, h1, h2, h3, h4⟩
 ·exact .inl h1
 ·refine .inr ⟨g, c, cur, h1, h2, ?_, h4⟩
  rw [blk_setCell_other _ _ _ _ (by show g ≠ ob; exact (own_ne h hr (by rw [h1]; rfl)).symm)]
  exact h3
theorem out_step {w0 wr W3 w4 : World} {st : List ty.It} {pr : List ty.Pr} {ob i : Nat} {v0 v1 v2 v3 v4 : Value} {xs ys : List Value} (hO : OutR w0 st pr ob v0 v1 v2 v3 wr) (hown : wr.ownsRow w0.heap.size 90 3 v2 i xs) (hB : Below wr.heap.size wr W3) (hg : W3.grownBy w4 v2.ownBlock) (h4 : w4.ownsRow w0.heap.size 90 3 v4 (i + 1) ys) :
  (w4.cell? ⟨ob, 2, none⟩ = some v2 ∧ w4.frozen? ⟨ob, 2, none⟩ = false) ∧ OutR w0 st pr ob v0 v1 v4 v3 (w4.setCell ⟨ob, 2, none⟩ v4) ∧ (w4.setCell ⟨ob, 2, none⟩ v4).ownsRow w0.heap.size 90 3 v4 (i + 1) ys := by
 have hown3 := own_belowI hown hB
 have r3 : W3.rowIs ob 36 4 (f4 v0 v1 v2 v3) := hO.row.of_block (hB.block _ hO.row.lt)
 have r4 := row_own r3 hown3 hg
 have x4 := ((Ext.below hB).trans (ext_own hown3 hg)).trans (Ext.set (i := 2) r4 (.inr (.inr rfl)) v4)
 have b3 := hO.b.trans (hB.mono hO.b.size)
 have b4 := below_grownS b3 hown3 hg b3.size
 refine ⟨⟨r4.cell (i := 2) (by omega), r4.frozen 2⟩, ⟨(r4.set 2 v4).congr (fun i hi => by
  match i, hi with
  | 0, _ => rfl
  | 1, _ => rfl
  | 2, _ => rfl
  | 3, _ => rfl), hO.z.ext x4, hO.q.ext x4, below_set b4 hO.lo, hO.lo⟩, own_set h4 r4⟩
theorem l19c_any (lo : Nat) (x : ty.Wo) (a0 a1 a2 a3 : Option Addr) (c0 c1 c2 c3 : Nat) (w : World) (hS : SrcW (some lo) w x a0 a1 a2 a3) (hw : ty.wt1Wo x ≤ 1048576) (hr : ∀ y ∈ x.fStore, y.fRefs.length ≤ 300) (hp20 : x.fPending.length ≤ 20) :
  Calls Tryz.prog 41 #[.agg #[.slice a0 x.fStore.length c0, .slice a1 x.fProfiles.length c1, .slice a2 x.fPending.length c2, .slice a3 x.fNexts.length c3]] w fun e w' => CpR w' e x.fStore x.fProfiles ∧ Below w.heap.size w w' := by
 have hws : ty.wtIt x.fStore ≤ 1048576 ∧ ty.wtPr x.fProfiles ≤ 1048576 ∧ ty.wtPe x.fPending ≤ 1048576 ∧ ty.wtNx x.fNexts ≤ 1048576 := by unfold ty.wt1Wo at hw; omega
 have HCS := Lib.hid fun (W : World) (h : Below w.heap.size w W) => l12cz_any a0 c0 x.fStore W (RdJ.of (hS.st.below h)) hws.1 hr
 have HCQ := Lib.hid fun (W : World) (h : Below w.heap.size w W) => l13cq_any lo a1 c1 x.fProfiles W (hS.pr.below h) hws.2.1
 have hl3 : x.fNexts.length ≤ 1048576 := by have := ty.wtNx_len x.fNexts; omega
 obtain ⟨b3, o3, rfl, hn3⟩ : ∃ b3 o3, a3 = some ⟨b3, o3, none⟩ ∧ ∀ W, Below w.heap.size w W → ∀ j u, (nxC x.fNexts)[j]? = some u → W.cell? ((⟨b3, o3, none⟩ : Addr).add j) = some u := by
  rcases hS.nx with h | ⟨b, o, e, _, hc⟩
  ·cases h.1
  ·exact ⟨b, o, e, fun W h => nx_news fun j y hy => ((hc j y hy).any).below h⟩
 have HN3 := Lib.hid hn3
 have HNL : Hid ((nxC x.fNexts).length = x.fNexts.length * 2) := nxC_len _
 have HN1 : Hid (∀ u ∈ nxC x.fNexts, u.oneCell' = true) := nxC_one _
 have HPE := Lib.hid hS.pe
 have HPW : Hid (∀ y ∈ x.fPending, ty.wtEt y.fTree ≤ 1048576) := fun y hy => by have := ty.wtPe_mem hy; unfold ty.wt1Pe at this; omega
 clear hS hw hws hr hn3
 obtain ⟨NX, hNX⟩ : ∃ L, nxC x.fNexts = L := ⟨_, rfl⟩
 rw [hNX] at HN3 HNL HN1
 clear hNX
 obtain ⟨n2, hn2⟩ : ∃ n, x.fPending.length = n := ⟨_, rfl⟩
 have HN2 : Hid (x.fPending.length = n2) := hn2
 rw [hn2] at hp20 ⊢
 clear hn2
 generalize hst : x.fStore = st at *
 generalize hpr : x.fProfiles = pr at *
 clear hst hpr
 generalize st.length = n0 at *
 generalize pr.length = n1 at *
 generalize x.fNexts.length = n3 at *
 generalize x.fPending = pe at *
 obtain ⟨w0, hw0⟩ : ∃ w0, w0 = (w.alloc (.cells #[.slice a0 n0 c0, .slice a1 n1 c1, .slice a2 n2 c2, .slice (some ⟨b3, o3, none⟩) n3 c3] 36)).alloc (.cells #[.slice none 0 0, .slice none 0 0, .slice none 0 0, .slice none 0 0] 36) := ⟨_, rfl⟩
 have HW0 := Lib.hid hw0
 have hb0 : Below w.heap.size w w0 := by rw [hw0]; exact ((Below.refl _ _).alloc (Nat.le_refl _) _).alloc (by simp) _
 have HBW : Hid (∀ W, Below w0.heap.size w0 W → Below w.heap.size w W) := fun W h => hb0.trans (h.mono hb0.size)
 have HBX : Hid (∀ W, Below w0.heap.size w0 W → WoC W w.heap.size (.slice a0 n0 c0) (.slice a1 n1 c1) (.slice a2 n2 c2) (.slice (some ⟨b3, o3, none⟩) n3 c3)) := fun W h => by
  have h1 : WoC w0 w.heap.size (.slice a0 n0 c0) (.slice a1 n1 c1) (.slice a2 n2 c2) (.slice (some ⟨b3, o3, none⟩) n3 c3) := by rw [hw0]; exact ⟨by simp [go_sem], by simp [go_sem], by simp [go_sem], by simp [go_sem]⟩
  exact h1.below h
 have HRS : Hid (∀ W, Below w0.heap.size w0 W → W.rowIs (w.heap.size + 1) 36 4 (f4 (.slice none 0 0) (.slice none 0 0) (.slice none 0 0) (.slice none 0 0))) := fun W h => by
  have h1 := wz_row (w.alloc (.cells #[.slice a0 n0 c0, .slice a1 n1 c1, .slice a2 n2 c2, .slice (some ⟨b3, o3, none⟩) n3 c3] 36))
  rw [← hw0, World.size_alloc] at h1
  exact h1.of_block (h.block _ h1.lt)
 have HSZ : Hid (w0.heap.size = w.heap.size + 2) := by show _ = _; rw [hw0]; simp
 have HS : Hid (∀ W, Below w0.heap.size w0 W → W.cell? ⟨w.heap.size, 0, none⟩ = some (.slice a0 n0 c0) ∧ W.cell? ⟨w.heap.size, 1, none⟩ = some (.slice a1 n1 c1) ∧ W.cell? ⟨w.heap.size, 3, none⟩ = some (.slice (some ⟨b3, o3, none⟩) n3 c3)) := fun W h => by
  obtain ⟨u0, u1, _, u3⟩ := HBX.out W h
  exact ⟨u0, u1, u3⟩
 clear hw0 hb0
 go_enter Tryz.func41, Tryz.ntmps41
 go_upto_region 1 with fail
 rw [← HW0.out]
 go_cut [3] from 6 to 16 (fun v wx => ∃ ob v0 v1 v3, v = .pointer (some ⟨ob, 0, none⟩) ∧ OutR w0 st pr ob v0 v1 (.slice none 0 0) v3 wx ∧ ∃ a c, v3 = .slice a n3 c)
 case first =>
  have D0 : Below w0.heap.size w0 w0.drew := (Below.refl _ _).drew
  clear HBX HRS HSZ HW0 HPE HPW HN2
  refine wp_region_held_drew (S := (fun W => W.cell? ⟨w.heap.size, 0, none⟩ = some (.slice a0 n0 c0) ∧ W.cell? ⟨w.heap.size, 1, none⟩ = some (.slice a1 n1 c1) ∧ W.cell? ⟨w.heap.size, 3, none⟩ = some (.slice (some ⟨b3, o3, none⟩) n3 c3))) (by kernel_rfl) (HS.out _ D0) (fun hHeld => ?_)
  refine uq (i := 0) rfl ?_
  try simp only [aP]
  refine uq (i := 1) rfl ?_
  try simp only [aP]
  refine uq (i := 3) rfl ?_
  try simp only [aP]
  refine uq (i := 4) rfl ?_
  try simp only [aP]
  refine uq (i := 7) rfl ?_
  try simp only [aP]
  refine uq (i := 8) rfl ?_
  try simp only [aP]
  refine wpAnyH_ready (rs := [2, 6, 11]) (by kernel_rfl) (by simp) ?_
  refine cq rfl (fun K hK => ?_) (cq rfl (fun K hK => ?_) (cq rfl (fun K hK => ?_) AllReadyH.nil))
  ·go_simp
   go_at_call 82
   refine (HCS.out _ (HBW.out _ D0)).mono ?_
   rintro e y1 ⟨⟨v0, rfl, Z1⟩, hl⟩
   obtain ⟨gv0, cv0, hv_, hv2_⟩ := Z1.src
   clear hv2_
   subst hv_
   have D1 := D0.trans (hl.mono D0.size)
   clear hl
   try go_wp2_with fail
   refine hK.out _ _ (HS.out _ D1) (fun hHeld => ?_)
   clear hK K
   try simp only [aP]
   refine wpAnyH_ready (rs := [5, 6, 11]) (by kernel_rfl) (by simp) ?_
   refine cq rfl (fun K hK => ?_) (cq rfl (fun K hK => ?_) (cq rfl (fun K hK => ?_) AllReadyH.nil))
   ·go_simp
    go_at_call 83
    refine (HCQ.out _ (HBW.out _ D1)).mono ?_
    rintro e y2 ⟨⟨v1, rfl, G2⟩, hl⟩
    obtain ⟨gv1, cv1, hv_, hv2_⟩ := G2.src
    clear hv2_
    subst hv_
    have D2 := D1.trans (hl.mono D1.size)
    have Z2 := Z1.ext (Ext.below hl)
    clear hl
    try go_wp2_with fail
    refine hK.out _ _ (HS.out _ D2) (fun hHeld => ?_)
    clear hK K
    try simp only [aP]
    refine wpAnyH_ready (rs := [6, 11]) (by kernel_rfl) (by simp) ?_
    refine cq rfl (fun K hK => ?_) (cq rfl (fun K hK => ?_) AllReadyH.nil)
    ·go_simp
     have hl : Below y2.heap.size y2 (y2.alloc (Obj.cells #[] 92)) := (Below.refl _ _).alloc (Nat.le_refl _) _
     have D3 := D2.alloc D2.size (Obj.cells #[] 92)
     have Z3 := Z2.ext (Ext.below hl)
     have G3 := G2.ext (Ext.below hl)
     have R3 := nx_nil y2
     have rb3 : y2.heap.size ≤ (y2.alloc (Obj.cells #[] 92)).heap.size := hl.size
     have gl : w0.heap.size ≤ y2.heap.size := D2.size
     clear hl
     try go_wp2_with fail
     refine hK.out _ _ (HS.out _ D3) (fun hHeld => ?_)
     clear hK K
     try simp only [aP]
     refine wpAnyH_ready (rs := [9, 11]) (by kernel_rfl) (by simp) ?_
     refine cq rfl (fun K hK => ?_) (cq rfl (fun K hK => ?_) AllReadyH.nil)
     ·refine step_nx rfl _ _ rfl _ (by first | rfl | go_simp) R3 ⟨b3, o3, none⟩ n3 c3 NX (by first | rfl | go_simp) HNL.out (HN3.out _ (HBW.out _ D3)) HN1.out (by omega) rb3 ?_
      rintro v3 y4 ⟨av3, cv3, hv3⟩ hg
      subst hv3
      obtain ⟨NB, fB, hrB⟩ := nx_row R3
      have hx := Ext.grown hg hrB (.inl rfl)
      have D4 := below_some D3 hg gl
      have Z4 := Z3.ext hx
      have G4 := G3.ext hx
      clear hg hx hrB
      refine hK.out _ _ (HS.out _ D4) (fun hHeld => ?_)
      clear hK K
      try simp only [aP]
      refine uq (i := 10) rfl ?_
      try simp only [aP]
      refine rq 11 rfl fun K hK => ?_
      go_simp
      have hl : Below y4.heap.size y4 (y4.alloc (Obj.cells #[.slice none 0 0, .slice none 0 0, .slice none 0 0, .slice none 0 0] 36)) := (Below.refl _ _).alloc (Nat.le_refl _) _
      have D5 := D4.alloc D4.size (Obj.cells #[.slice none 0 0, .slice none 0 0, .slice none 0 0, .slice none 0 0] 36)
      have Z5 := Z4.ext (Ext.below hl)
      have G5 := G4.ext (Ext.below hl)
      have U5 := wz_row y4
      have pl : w0.heap.size ≤ y4.heap.size := D4.size
      clear hl
      try go_wp2_with fail
      refine hK.out _ _ (HS.out _ D5) (fun hHeld => ?_)
      clear hK K
      try simp only [aP]
      have hO := out_late (v3 := .slice av3 n3 cv3) D4 Z4 G4
      refine rq 12 rfl fun K hK => ?_
      go_simp
      try go_wp2_with fail
      refine hK.out _ _ (HS.out _ hO.b) (fun hHeld => ?_)
      clear hK K
      try simp only [aP]
      refine dq ?_
      go_wp2_with fail
      go_meet
      case rel => exact ⟨_, _, _, _, rfl, hO, _, _, rfl⟩
     ·go_simp
      have hl : Below (y2.alloc (Obj.cells #[] 92)).heap.size (y2.alloc (Obj.cells #[] 92)) ((y2.alloc (Obj.cells #[] 92)).alloc (Obj.cells #[.slice none 0 0, .slice none 0 0, .slice none 0 0, .slice none 0 0] 36)) := (Below.refl _ _).alloc (Nat.le_refl _) _
      have D4 := D3.alloc D3.size (Obj.cells #[.slice none 0 0, .slice none 0 0, .slice none 0 0, .slice none 0 0] 36)
      have Z4 := Z3.ext (Ext.below hl)
      have G4 := G3.ext (Ext.below hl)
      have R4 := own_belowI R3 hl
      have rb4 := Nat.le_trans rb3 hl.size
      have U4 := wz_row (y2.alloc (Obj.cells #[] 92))
      have pl : w0.heap.size ≤ (y2.alloc (Obj.cells #[] 92)).heap.size := D3.size
      rw [World.size_alloc] at U4 pl
      clear hl
      try go_wp2_with fail
      refine hK.out _ _ (HS.out _ D4) (fun hHeld => ?_)
      clear hK K
      try simp only [aP]
      refine rq 9 rfl fun K hK => ?_
      refine step_nx rfl _ _ rfl _ (by first | rfl | go_simp) R4 ⟨b3, o3, none⟩ n3 c3 NX (by first | rfl | go_simp) HNL.out (HN3.out _ (HBW.out _ D4)) HN1.out (by omega) rb4 ?_
      rintro v3 y5 ⟨av3, cv3, hv3⟩ hg
      subst hv3
      obtain ⟨NB, fB, hrB⟩ := nx_row R4
      have hx := Ext.grown hg hrB (.inl rfl)
      have D5 := below_some D4 hg gl
      have Z5 := Z4.ext hx
      have G5 := G4.ext hx
      have U5 := U4.of_block (hg.block _ U4.lt (fun e => by have e := Option.some.inj e; exact absurd (two_typesI U4 (e ▸ hrB)) (by decide)))
      clear hg hx hrB
      refine hK.out _ _ (HS.out _ D5) (fun hHeld => ?_)
      clear hK K
      try simp only [aP]
      refine uq (i := 10) rfl ?_
      try simp only [aP]
      have f0 := U5.frozen 0
      have f1 := U5.frozen 1
      have f2 := U5.frozen 2
      have f3 := U5.frozen 3
      have d0 := U5.cell (i := 0) (by omega)
      have d1 := U5.cell (i := 1) (by omega)
      have d2 := U5.cell (i := 2) (by omega)
      have d3 := U5.cell (i := 3) (by omega)
      have hO := out_early (v3 := .slice av3 n3 cv3) U5 D5 Z5 G5 pl
      refine rq 12 rfl fun K hK => ?_
      go_simp
      try go_wp2_with fail
      refine hK.out _ _ (HS.out _ hO.b) (fun hHeld => ?_)
      clear hK K
      try simp only [aP]
      refine dq ?_
      go_wp2_with fail
      go_meet
      case rel => exact ⟨_, _, _, _, rfl, hO, _, _, rfl⟩
    ·go_simp
     have hl : Below y2.heap.size y2 (y2.alloc (Obj.cells #[.slice none 0 0, .slice none 0 0, .slice none 0 0, .slice none 0 0] 36)) := (Below.refl _ _).alloc (Nat.le_refl _) _
     have D3 := D2.alloc D2.size (Obj.cells #[.slice none 0 0, .slice none 0 0, .slice none 0 0, .slice none 0 0] 36)
     have Z3 := Z2.ext (Ext.below hl)
     have G3 := G2.ext (Ext.below hl)
     have U3 := wz_row y2
     have pl : w0.heap.size ≤ y2.heap.size := D2.size
     clear hl
     try go_wp2_with fail
     refine hK.out _ _ (HS.out _ D3) (fun hHeld => ?_)
     clear hK K
     try simp only [aP]
     refine rq 6 rfl fun K hK => ?_
     go_simp
     have hl : Below (y2.alloc (Obj.cells #[.slice none 0 0, .slice none 0 0, .slice none 0 0, .slice none 0 0] 36)).heap.size (y2.alloc (Obj.cells #[.slice none 0 0, .slice none 0 0, .slice none 0 0, .slice none 0 0] 36)) ((y2.alloc (Obj.cells #[.slice none 0 0, .slice none 0 0, .slice none 0 0, .slice none 0 0] 36)).alloc (Obj.cells #[] 92)) := (Below.refl _ _).alloc (Nat.le_refl _) _
     have D4 := D3.alloc D3.size (Obj.cells #[] 92)
     have Z4 := Z3.ext (Ext.below hl)
     have G4 := G3.ext (Ext.below hl)
     have U4 := U3.of_block (hl.block _ U3.lt)
     have R4 := nx_nil (y2.alloc (Obj.cells #[.slice none 0 0, .slice none 0 0, .slice none 0 0, .slice none 0 0] 36))
     have rb4 : (y2.alloc (Obj.cells #[.slice none 0 0, .slice none 0 0, .slice none 0 0, .slice none 0 0] 36)).heap.size ≤ ((y2.alloc (Obj.cells #[.slice none 0 0, .slice none 0 0, .slice none 0 0, .slice none 0 0] 36)).alloc (Obj.cells #[] 92)).heap.size := hl.size
     have gl : w0.heap.size ≤ (y2.alloc (Obj.cells #[.slice none 0 0, .slice none 0 0, .slice none 0 0, .slice none 0 0] 36)).heap.size := D3.size
     clear hl
     try go_wp2_with fail
     refine hK.out _ _ (HS.out _ D4) (fun hHeld => ?_)
     clear hK K
     try simp only [aP]
     refine rq 9 rfl fun K hK => ?_
     refine step_nx rfl _ _ rfl _ (by first | rfl | go_simp) R4 ⟨b3, o3, none⟩ n3 c3 NX (by first | rfl | go_simp) HNL.out (HN3.out _ (HBW.out _ D4)) HN1.out (by omega) rb4 ?_
     rintro v3 y5 ⟨av3, cv3, hv3⟩ hg
     subst hv3
     obtain ⟨NB, fB, hrB⟩ := nx_row R4
     have hx := Ext.grown hg hrB (.inl rfl)
     have D5 := below_some D4 hg gl
     have Z5 := Z4.ext hx
     have G5 := G4.ext hx
     have U5 := U4.of_block (hg.block _ U4.lt (fun e => by have e := Option.some.inj e; exact absurd (two_typesI U4 (e ▸ hrB)) (by decide)))
     clear hg hx hrB
     refine hK.out _ _ (HS.out _ D5) (fun hHeld => ?_)
     clear hK K
     try simp only [aP]
     refine uq (i := 10) rfl ?_
     try simp only [aP]
     have f0 := U5.frozen 0
     have f1 := U5.frozen 1
     have f2 := U5.frozen 2
     have f3 := U5.frozen 3
     have d0 := U5.cell (i := 0) (by omega)
     have d1 := U5.cell (i := 1) (by omega)
     have d2 := U5.cell (i := 2) (by omega)
     have d3 := U5.cell (i := 3) (by omega)
     have hO := out_early (v3 := .slice av3 n3 cv3) U5 D5 Z5 G5 pl
     refine rq 12 rfl fun K hK => ?_
     go_simp
     try go_wp2_with fail
     refine hK.out _ _ (HS.out _ hO.b) (fun hHeld => ?_)
     clear hK K
     try simp only [aP]
     refine dq ?_
     go_wp2_with fail
     go_meet
     case rel => exact ⟨_, _, _, _, rfl, hO, _, _, rfl⟩
   ·go_simp
    have hl : Below y1.heap.size y1 (y1.alloc (Obj.cells #[] 92)) := (Below.refl _ _).alloc (Nat.le_refl _) _
    have D2 := D1.alloc D1.size (Obj.cells #[] 92)
    have Z2 := Z1.ext (Ext.below hl)
    have R2 := nx_nil y1
    have rb2 : y1.heap.size ≤ (y1.alloc (Obj.cells #[] 92)).heap.size := hl.size
    have gl : w0.heap.size ≤ y1.heap.size := D1.size
    clear hl
    try go_wp2_with fail
    refine hK.out _ _ (HS.out _ D2) (fun hHeld => ?_)
    clear hK K
    try simp only [aP]
    refine wpAnyH_ready (rs := [5, 11]) (by kernel_rfl) (by simp) ?_
    refine cq rfl (fun K hK => ?_) (cq rfl (fun K hK => ?_) AllReadyH.nil)
    ·go_simp
     go_at_call 83
     refine (HCQ.out _ (HBW.out _ D2)).mono ?_
     rintro e y3 ⟨⟨v1, rfl, G3⟩, hl⟩
     obtain ⟨gv1, cv1, hv_, hv2_⟩ := G3.src
     clear hv2_
     subst hv_
     have D3 := D2.trans (hl.mono D2.size)
     have Z3 := Z2.ext (Ext.below hl)
     have R3 := own_belowI R2 hl
     have rb3 := Nat.le_trans rb2 hl.size
     clear hl
     try go_wp2_with fail
     refine hK.out _ _ (HS.out _ D3) (fun hHeld => ?_)
     clear hK K
     try simp only [aP]
     refine wpAnyH_ready (rs := [9, 11]) (by kernel_rfl) (by simp) ?_
     refine cq rfl (fun K hK => ?_) (cq rfl (fun K hK => ?_) AllReadyH.nil)
     ·refine step_nx rfl _ _ rfl _ (by first | rfl | go_simp) R3 ⟨b3, o3, none⟩ n3 c3 NX (by first | rfl | go_simp) HNL.out (HN3.out _ (HBW.out _ D3)) HN1.out (by omega) rb3 ?_
      rintro v3 y4 ⟨av3, cv3, hv3⟩ hg
      subst hv3
      obtain ⟨NB, fB, hrB⟩ := nx_row R3
      have hx := Ext.grown hg hrB (.inl rfl)
      have D4 := below_some D3 hg gl
      have Z4 := Z3.ext hx
      have G4 := G3.ext hx
      clear hg hx hrB
      refine hK.out _ _ (HS.out _ D4) (fun hHeld => ?_)
      clear hK K
      try simp only [aP]
      refine uq (i := 10) rfl ?_
      try simp only [aP]
      refine rq 11 rfl fun K hK => ?_
      go_simp
      have hl : Below y4.heap.size y4 (y4.alloc (Obj.cells #[.slice none 0 0, .slice none 0 0, .slice none 0 0, .slice none 0 0] 36)) := (Below.refl _ _).alloc (Nat.le_refl _) _
      have D5 := D4.alloc D4.size (Obj.cells #[.slice none 0 0, .slice none 0 0, .slice none 0 0, .slice none 0 0] 36)
      have Z5 := Z4.ext (Ext.below hl)
      have G5 := G4.ext (Ext.below hl)
      have U5 := wz_row y4
      have pl : w0.heap.size ≤ y4.heap.size := D4.size
      clear hl
      try go_wp2_with fail
      refine hK.out _ _ (HS.out _ D5) (fun hHeld => ?_)
      clear hK K
      try simp only [aP]
      have hO := out_late (v3 := .slice av3 n3 cv3) D4 Z4 G4
      refine rq 12 rfl fun K hK => ?_
      go_simp
      try go_wp2_with fail
      refine hK.out _ _ (HS.out _ hO.b) (fun hHeld => ?_)
      clear hK K
      try simp only [aP]
      refine dq ?_
      go_wp2_with fail
      go_meet
      case rel => exact ⟨_, _, _, _, rfl, hO, _, _, rfl⟩
     ·go_simp
      have hl : Below y3.heap.size y3 (y3.alloc (Obj.cells #[.slice none 0 0, .slice none 0 0, .slice none 0 0, .slice none 0 0] 36)) := (Below.refl _ _).alloc (Nat.le_refl _) _
      have D4 := D3.alloc D3.size (Obj.cells #[.slice none 0 0, .slice none 0 0, .slice none 0 0, .slice none 0 0] 36)
      have Z4 := Z3.ext (Ext.below hl)
      have G4 := G3.ext (Ext.below hl)
      have R4 := own_belowI R3 hl
      have rb4 := Nat.le_trans rb3 hl.size
      have U4 := wz_row y3
      have pl : w0.heap.size ≤ y3.heap.size := D3.size
      clear hl
      try go_wp2_with fail
      refine hK.out _ _ (HS.out _ D4) (fun hHeld => ?_)
      clear hK K
      try simp only [aP]
      refine rq 9 rfl fun K hK => ?_
      refine step_nx rfl _ _ rfl _ (by first | rfl | go_simp) R4 ⟨b3, o3, none⟩ n3 c3 NX (by first | rfl | go_simp) HNL.out (HN3.out _ (HBW.out _ D4)) HN1.out (by omega) rb4 ?_
      rintro v3 y5 ⟨av3, cv3, hv3⟩ hg
      subst hv3
      obtain ⟨NB, fB, hrB⟩ := nx_row R4
      have hx := Ext.grown hg hrB (.inl rfl)
      have D5 := below_some D4 hg gl
      have Z5 := Z4.ext hx
      have G5 := G4.ext hx
      have U5 := U4.of_block (hg.block _ U4.lt (fun e => by have e := Option.some.inj e; exact absurd (two_typesI U4 (e ▸ hrB)) (by decide)))
      clear hg hx hrB
      refine hK.out _ _ (HS.out _ D5) (fun hHeld => ?_)
      clear hK K
      try simp only [aP]
      refine uq (i := 10) rfl ?_
      try simp only [aP]
      have f0 := U5.frozen 0
      have f1 := U5.frozen 1
      have f2 := U5.frozen 2
      have f3 := U5.frozen 3
      have d0 := U5.cell (i := 0) (by omega)
      have d1 := U5.cell (i := 1) (by omega)
      have d2 := U5.cell (i := 2) (by omega)
      have d3 := U5.cell (i := 3) (by omega)
      have hO := out_early (v3 := .slice av3 n3 cv3) U5 D5 Z5 G5 pl
      refine rq 12 rfl fun K hK => ?_
      go_simp
      try go_wp2_with fail
      refine hK.out _ _ (HS.out _ hO.b) (fun hHeld => ?_)
      clear hK K
      try simp only [aP]
      refine dq ?_
      go_wp2_with fail
      go_meet
      case rel => exact ⟨_, _, _, _, rfl, hO, _, _, rfl⟩
    ·go_simp
     have hl : Below (y1.alloc (Obj.cells #[] 92)).heap.size (y1.alloc (Obj.cells #[] 92)) ((y1.alloc (Obj.cells #[] 92)).alloc (Obj.cells #[.slice none 0 0, .slice none 0 0, .slice none 0 0, .slice none 0 0] 36)) := (Below.refl _ _).alloc (Nat.le_refl _) _
     have D3 := D2.alloc D2.size (Obj.cells #[.slice none 0 0, .slice none 0 0, .slice none 0 0, .slice none 0 0] 36)
     have Z3 := Z2.ext (Ext.below hl)
     have R3 := own_belowI R2 hl
     have rb3 := Nat.le_trans rb2 hl.size
     have U3 := wz_row (y1.alloc (Obj.cells #[] 92))
     have pl : w0.heap.size ≤ (y1.alloc (Obj.cells #[] 92)).heap.size := D2.size
     rw [World.size_alloc] at U3 pl
     clear hl
     try go_wp2_with fail
     refine hK.out _ _ (HS.out _ D3) (fun hHeld => ?_)
     clear hK K
     try simp only [aP]
     refine rq 5 rfl fun K hK => ?_
     go_simp
     go_at_call 83
     refine (HCQ.out _ (HBW.out _ D3)).mono ?_
     rintro e y4 ⟨⟨v1, rfl, G4⟩, hl⟩
     obtain ⟨gv1, cv1, hv_, hv2_⟩ := G4.src
     clear hv2_
     subst hv_
     have D4 := D3.trans (hl.mono D3.size)
     have Z4 := Z3.ext (Ext.below hl)
     have R4 := own_belowI R3 hl
     have rb4 := Nat.le_trans rb3 hl.size
     have U4 := U3.of_block (hl.block _ U3.lt)
     clear hl
     try go_wp2_with fail
     refine hK.out _ _ (HS.out _ D4) (fun hHeld => ?_)
     clear hK K
     try simp only [aP]
     refine rq 9 rfl fun K hK => ?_
     refine step_nx rfl _ _ rfl _ (by first | rfl | go_simp) R4 ⟨b3, o3, none⟩ n3 c3 NX (by first | rfl | go_simp) HNL.out (HN3.out _ (HBW.out _ D4)) HN1.out (by omega) rb4 ?_
     rintro v3 y5 ⟨av3, cv3, hv3⟩ hg
     subst hv3
     obtain ⟨NB, fB, hrB⟩ := nx_row R4
     have hx := Ext.grown hg hrB (.inl rfl)
     have D5 := below_some D4 hg gl
     have Z5 := Z4.ext hx
     have G5 := G4.ext hx
     have U5 := U4.of_block (hg.block _ U4.lt (fun e => by have e := Option.some.inj e; exact absurd (two_typesI U4 (e ▸ hrB)) (by decide)))
     clear hg hx hrB
     refine hK.out _ _ (HS.out _ D5) (fun hHeld => ?_)
     clear hK K
     try simp only [aP]
     refine uq (i := 10) rfl ?_
     try simp only [aP]
     have f0 := U5.frozen 0
     have f1 := U5.frozen 1
     have f2 := U5.frozen 2
     have f3 := U5.frozen 3
     have d0 := U5.cell (i := 0) (by omega)
     have d1 := U5.cell (i := 1) (by omega)
     have d2 := U5.cell (i := 2) (by omega)
     have d3 := U5.cell (i := 3) (by omega)
     have hO := out_early (v3 := .slice av3 n3 cv3) U5 D5 Z5 G5 pl
     refine rq 12 rfl fun K hK => ?_
     go_simp
     try go_wp2_with fail
     refine hK.out _ _ (HS.out _ hO.b) (fun hHeld => ?_)
     clear hK K
     try simp only [aP]
     refine dq ?_
     go_wp2_with fail
     go_meet
     case rel => exact ⟨_, _, _, _, rfl, hO, _, _, rfl⟩
   ·go_simp
    have hl : Below y1.heap.size y1 (y1.alloc (Obj.cells #[.slice none 0 0, .slice none 0 0, .slice none 0 0, .slice none 0 0] 36)) := (Below.refl _ _).alloc (Nat.le_refl _) _
    have D2 := D1.alloc D1.size (Obj.cells #[.slice none 0 0, .slice none 0 0, .slice none 0 0, .slice none 0 0] 36)
    have Z2 := Z1.ext (Ext.below hl)
    have U2 := wz_row y1
    have pl : w0.heap.size ≤ y1.heap.size := D1.size
    clear hl
    try go_wp2_with fail
    refine hK.out _ _ (HS.out _ D2) (fun hHeld => ?_)
    clear hK K
    try simp only [aP]
    refine wpAnyH_ready (rs := [5, 6]) (by kernel_rfl) (by simp) ?_
    refine cq rfl (fun K hK => ?_) (cq rfl (fun K hK => ?_) AllReadyH.nil)
    ·go_simp
     go_at_call 83
     refine (HCQ.out _ (HBW.out _ D2)).mono ?_
     rintro e y3 ⟨⟨v1, rfl, G3⟩, hl⟩
     obtain ⟨gv1, cv1, hv_, hv2_⟩ := G3.src
     clear hv2_
     subst hv_
     have D3 := D2.trans (hl.mono D2.size)
     have Z3 := Z2.ext (Ext.below hl)
     have U3 := U2.of_block (hl.block _ U2.lt)
     clear hl
     try go_wp2_with fail
     refine hK.out _ _ (HS.out _ D3) (fun hHeld => ?_)
     clear hK K
     try simp only [aP]
     refine rq 6 rfl fun K hK => ?_
     go_simp
     have hl : Below y3.heap.size y3 (y3.alloc (Obj.cells #[] 92)) := (Below.refl _ _).alloc (Nat.le_refl _) _
     have D4 := D3.alloc D3.size (Obj.cells #[] 92)
     have Z4 := Z3.ext (Ext.below hl)
     have G4 := G3.ext (Ext.below hl)
     have U4 := U3.of_block (hl.block _ U3.lt)
     have R4 := nx_nil y3
     have rb4 : y3.heap.size ≤ (y3.alloc (Obj.cells #[] 92)).heap.size := hl.size
     have gl : w0.heap.size ≤ y3.heap.size := D3.size
     clear hl
     try go_wp2_with fail
     refine hK.out _ _ (HS.out _ D4) (fun hHeld => ?_)
     clear hK K
     try simp only [aP]
     refine rq 9 rfl fun K hK => ?_
     refine step_nx rfl _ _ rfl _ (by first | rfl | go_simp) R4 ⟨b3, o3, none⟩ n3 c3 NX (by first | rfl | go_simp) HNL.out (HN3.out _ (HBW.out _ D4)) HN1.out (by omega) rb4 ?_
     rintro v3 y5 ⟨av3, cv3, hv3⟩ hg
     subst hv3
     obtain ⟨NB, fB, hrB⟩ := nx_row R4
     have hx := Ext.grown hg hrB (.inl rfl)
     have D5 := below_some D4 hg gl
     have Z5 := Z4.ext hx
     have G5 := G4.ext hx
     have U5 := U4.of_block (hg.block _ U4.lt (fun e => by have e := Option.some.inj e; exact absurd (two_typesI U4 (e ▸ hrB)) (by decide)))
     clear hg hx hrB
     refine hK.out _ _ (HS.out _ D5) (fun hHeld => ?_)
     clear hK K
     try simp only [aP]
     refine uq (i := 10) rfl ?_
     try simp only [aP]
     have f0 := U5.frozen 0
     have f1 := U5.frozen 1
     have f2 := U5.frozen 2
     have f3 := U5.frozen 3
     have d0 := U5.cell (i := 0) (by omega)
     have d1 := U5.cell (i := 1) (by omega)
     have d2 := U5.cell (i := 2) (by omega)
     have d3 := U5.cell (i := 3) (by omega)
     have hO := out_early (v3 := .slice av3 n3 cv3) U5 D5 Z5 G5 pl
     refine rq 12 rfl fun K hK => ?_
     go_simp
     try go_wp2_with fail
     refine hK.out _ _ (HS.out _ hO.b) (fun hHeld => ?_)
     clear hK K
     try simp only [aP]
     refine dq ?_
     go_wp2_with fail
     go_meet
     case rel => exact ⟨_, _, _, _, rfl, hO, _, _, rfl⟩
    ·go_simp
     have hl : Below (y1.alloc (Obj.cells #[.slice none 0 0, .slice none 0 0, .slice none 0 0, .slice none 0 0] 36)).heap.size (y1.alloc (Obj.cells #[.slice none 0 0, .slice none 0 0, .slice none 0 0, .slice none 0 0] 36)) ((y1.alloc (Obj.cells #[.slice none 0 0, .slice none 0 0, .slice none 0 0, .slice none 0 0] 36)).alloc (Obj.cells #[] 92)) := (Below.refl _ _).alloc (Nat.le_refl _) _
     have D3 := D2.alloc D2.size (Obj.cells #[] 92)
     have Z3 := Z2.ext (Ext.below hl)
     have U3 := U2.of_block (hl.block _ U2.lt)
     have R3 := nx_nil (y1.alloc (Obj.cells #[.slice none 0 0, .slice none 0 0, .slice none 0 0, .slice none 0 0] 36))
     have rb3 : (y1.alloc (Obj.cells #[.slice none 0 0, .slice none 0 0, .slice none 0 0, .slice none 0 0] 36)).heap.size ≤ ((y1.alloc (Obj.cells #[.slice none 0 0, .slice none 0 0, .slice none 0 0, .slice none 0 0] 36)).alloc (Obj.cells #[] 92)).heap.size := hl.size
     have gl : w0.heap.size ≤ (y1.alloc (Obj.cells #[.slice none 0 0, .slice none 0 0, .slice none 0 0, .slice none 0 0] 36)).heap.size := D2.size
     clear hl
     try go_wp2_with fail
     refine hK.out _ _ (HS.out _ D3) (fun hHeld => ?_)
     clear hK K
     try simp only [aP]
     refine rq 5 rfl fun K hK => ?_
     go_simp
     go_at_call 83
     refine (HCQ.out _ (HBW.out _ D3)).mono ?_
     rintro e y4 ⟨⟨v1, rfl, G4⟩, hl⟩
     obtain ⟨gv1, cv1, hv_, hv2_⟩ := G4.src
     clear hv2_
     subst hv_
     have D4 := D3.trans (hl.mono D3.size)
     have Z4 := Z3.ext (Ext.below hl)
     have R4 := own_belowI R3 hl
     have rb4 := Nat.le_trans rb3 hl.size
     have U4 := U3.of_block (hl.block _ U3.lt)
     clear hl
     try go_wp2_with fail
     refine hK.out _ _ (HS.out _ D4) (fun hHeld => ?_)
     clear hK K
     try simp only [aP]
     refine rq 9 rfl fun K hK => ?_
     refine step_nx rfl _ _ rfl _ (by first | rfl | go_simp) R4 ⟨b3, o3, none⟩ n3 c3 NX (by first | rfl | go_simp) HNL.out (HN3.out _ (HBW.out _ D4)) HN1.out (by omega) rb4 ?_
     rintro v3 y5 ⟨av3, cv3, hv3⟩ hg
     subst hv3
     obtain ⟨NB, fB, hrB⟩ := nx_row R4
     have hx := Ext.grown hg hrB (.inl rfl)
     have D5 := below_some D4 hg gl
     have Z5 := Z4.ext hx
     have G5 := G4.ext hx
     have U5 := U4.of_block (hg.block _ U4.lt (fun e => by have e := Option.some.inj e; exact absurd (two_typesI U4 (e ▸ hrB)) (by decide)))
     clear hg hx hrB
     refine hK.out _ _ (HS.out _ D5) (fun hHeld => ?_)
     clear hK K
     try simp only [aP]
     refine uq (i := 10) rfl ?_
     try simp only [aP]
     have f0 := U5.frozen 0
     have f1 := U5.frozen 1
     have f2 := U5.frozen 2
     have f3 := U5.frozen 3
     have d0 := U5.cell (i := 0) (by omega)
     have d1 := U5.cell (i := 1) (by omega)
     have d2 := U5.cell (i := 2) (by omega)
     have d3 := U5.cell (i := 3) (by omega)
     have hO := out_early (v3 := .slice av3 n3 cv3) U5 D5 Z5 G5 pl
     refine rq 12 rfl fun K hK => ?_
     go_simp
     try go_wp2_with fail
     refine hK.out _ _ (HS.out _ hO.b) (fun hHeld => ?_)
     clear hK K
     try simp only [aP]
     refine dq ?_
     go_wp2_with fail
     go_meet
     case rel => exact ⟨_, _, _, _, rfl, hO, _, _, rfl⟩
  ·go_simp
   have hl : Below w0.drew.heap.size w0.drew (w0.drew.alloc (Obj.cells #[] 92)) := (Below.refl _ _).alloc (Nat.le_refl _) _
   have D1 := D0.alloc D0.size (Obj.cells #[] 92)
   have R1 := nx_nil w0.drew
   have rb1 : w0.drew.heap.size ≤ (w0.drew.alloc (Obj.cells #[] 92)).heap.size := hl.size
   have gl : w0.heap.size ≤ w0.drew.heap.size := D0.size
   clear hl
   try go_wp2_with fail
   refine hK.out _ _ (HS.out _ D1) (fun hHeld => ?_)
   clear hK K
   try simp only [aP]
   refine wpAnyH_ready (rs := [2, 11]) (by kernel_rfl) (by simp) ?_
   refine cq rfl (fun K hK => ?_) (cq rfl (fun K hK => ?_) AllReadyH.nil)
   ·go_simp
    go_at_call 82
    refine (HCS.out _ (HBW.out _ D1)).mono ?_
    rintro e y2 ⟨⟨v0, rfl, Z2⟩, hl⟩
    obtain ⟨gv0, cv0, hv_, hv2_⟩ := Z2.src
    clear hv2_
    subst hv_
    have D2 := D1.trans (hl.mono D1.size)
    have R2 := own_belowI R1 hl
    have rb2 := Nat.le_trans rb1 hl.size
    clear hl
    try go_wp2_with fail
    refine hK.out _ _ (HS.out _ D2) (fun hHeld => ?_)
    clear hK K
    try simp only [aP]
    refine wpAnyH_ready (rs := [5, 11]) (by kernel_rfl) (by simp) ?_
    refine cq rfl (fun K hK => ?_) (cq rfl (fun K hK => ?_) AllReadyH.nil)
    ·go_simp
     go_at_call 83
     refine (HCQ.out _ (HBW.out _ D2)).mono ?_
     rintro e y3 ⟨⟨v1, rfl, G3⟩, hl⟩
     obtain ⟨gv1, cv1, hv_, hv2_⟩ := G3.src
     clear hv2_
     subst hv_
     have D3 := D2.trans (hl.mono D2.size)
     have Z3 := Z2.ext (Ext.below hl)
     have R3 := own_belowI R2 hl
     have rb3 := Nat.le_trans rb2 hl.size
     clear hl
     try go_wp2_with fail
     refine hK.out _ _ (HS.out _ D3) (fun hHeld => ?_)
     clear hK K
     try simp only [aP]
     refine wpAnyH_ready (rs := [9, 11]) (by kernel_rfl) (by simp) ?_
     refine cq rfl (fun K hK => ?_) (cq rfl (fun K hK => ?_) AllReadyH.nil)
     ·refine step_nx rfl _ _ rfl _ (by first | rfl | go_simp) R3 ⟨b3, o3, none⟩ n3 c3 NX (by first | rfl | go_simp) HNL.out (HN3.out _ (HBW.out _ D3)) HN1.out (by omega) rb3 ?_
      rintro v3 y4 ⟨av3, cv3, hv3⟩ hg
      subst hv3
      obtain ⟨NB, fB, hrB⟩ := nx_row R3
      have hx := Ext.grown hg hrB (.inl rfl)
      have D4 := below_some D3 hg gl
      have Z4 := Z3.ext hx
      have G4 := G3.ext hx
      clear hg hx hrB
      refine hK.out _ _ (HS.out _ D4) (fun hHeld => ?_)
      clear hK K
      try simp only [aP]
      refine uq (i := 10) rfl ?_
      try simp only [aP]
      refine rq 11 rfl fun K hK => ?_
      go_simp
      have hl : Below y4.heap.size y4 (y4.alloc (Obj.cells #[.slice none 0 0, .slice none 0 0, .slice none 0 0, .slice none 0 0] 36)) := (Below.refl _ _).alloc (Nat.le_refl _) _
      have D5 := D4.alloc D4.size (Obj.cells #[.slice none 0 0, .slice none 0 0, .slice none 0 0, .slice none 0 0] 36)
      have Z5 := Z4.ext (Ext.below hl)
      have G5 := G4.ext (Ext.below hl)
      have U5 := wz_row y4
      have pl : w0.heap.size ≤ y4.heap.size := D4.size
      clear hl
      try go_wp2_with fail
      refine hK.out _ _ (HS.out _ D5) (fun hHeld => ?_)
      clear hK K
      try simp only [aP]
      have hO := out_late (v3 := .slice av3 n3 cv3) D4 Z4 G4
      refine rq 12 rfl fun K hK => ?_
      go_simp
      try go_wp2_with fail
      refine hK.out _ _ (HS.out _ hO.b) (fun hHeld => ?_)
      clear hK K
      try simp only [aP]
      refine dq ?_
      go_wp2_with fail
      go_meet
      case rel => exact ⟨_, _, _, _, rfl, hO, _, _, rfl⟩
     ·go_simp
      have hl : Below y3.heap.size y3 (y3.alloc (Obj.cells #[.slice none 0 0, .slice none 0 0, .slice none 0 0, .slice none 0 0] 36)) := (Below.refl _ _).alloc (Nat.le_refl _) _
      have D4 := D3.alloc D3.size (Obj.cells #[.slice none 0 0, .slice none 0 0, .slice none 0 0, .slice none 0 0] 36)
      have Z4 := Z3.ext (Ext.below hl)
      have G4 := G3.ext (Ext.below hl)
      have R4 := own_belowI R3 hl
      have rb4 := Nat.le_trans rb3 hl.size
      have U4 := wz_row y3
      have pl : w0.heap.size ≤ y3.heap.size := D3.size
      clear hl
      try go_wp2_with fail
      refine hK.out _ _ (HS.out _ D4) (fun hHeld => ?_)
      clear hK K
      try simp only [aP]
      refine rq 9 rfl fun K hK => ?_
      refine step_nx rfl _ _ rfl _ (by first | rfl | go_simp) R4 ⟨b3, o3, none⟩ n3 c3 NX (by first | rfl | go_simp) HNL.out (HN3.out _ (HBW.out _ D4)) HN1.out (by omega) rb4 ?_
      rintro v3 y5 ⟨av3, cv3, hv3⟩ hg
      subst hv3
      obtain ⟨NB, fB, hrB⟩ := nx_row R4
      have hx := Ext.grown hg hrB (.inl rfl)
      have D5 := below_some D4 hg gl
      have Z5 := Z4.ext hx
      have G5 := G4.ext hx
      have U5 := U4.of_block (hg.block _ U4.lt (fun e => by have e := Option.some.inj e; exact absurd (two_typesI U4 (e ▸ hrB)) (by decide)))
      clear hg hx hrB
      refine hK.out _ _ (HS.out _ D5) (fun hHeld => ?_)
      clear hK K
      try simp only [aP]
      refine uq (i := 10) rfl ?_
      try simp only [aP]
      have f0 := U5.frozen 0
      have f1 := U5.frozen 1
      have f2 := U5.frozen 2
      have f3 := U5.frozen 3
      have d0 := U5.cell (i := 0) (by omega)
      have d1 := U5.cell (i := 1) (by omega)
      have d2 := U5.cell (i := 2) (by omega)
      have d3 := U5.cell (i := 3) (by omega)
      have hO := out_early (v3 := .slice av3 n3 cv3) U5 D5 Z5 G5 pl
      refine rq 12 rfl fun K hK => ?_
      go_simp
      try go_wp2_with fail
      refine hK.out _ _ (HS.out _ hO.b) (fun hHeld => ?_)
      clear hK K
      try simp only [aP]
      refine dq ?_
      go_wp2_with fail
      go_meet
      case rel => exact ⟨_, _, _, _, rfl, hO, _, _, rfl⟩
    ·go_simp
     have hl : Below y2.heap.size y2 (y2.alloc (Obj.cells #[.slice none 0 0, .slice none 0 0, .slice none 0 0, .slice none 0 0] 36)) := (Below.refl _ _).alloc (Nat.le_refl _) _
     have D3 := D2.alloc D2.size (Obj.cells #[.slice none 0 0, .slice none 0 0, .slice none 0 0, .slice none 0 0] 36)
     have Z3 := Z2.ext (Ext.below hl)
     have R3 := own_belowI R2 hl
     have rb3 := Nat.le_trans rb2 hl.size
     have U3 := wz_row y2
     have pl : w0.heap.size ≤ y2.heap.size := D2.size
     clear hl
     try go_wp2_with fail
     refine hK.out _ _ (HS.out _ D3) (fun hHeld => ?_)
     clear hK K
     try simp only [aP]
     refine rq 5 rfl fun K hK => ?_
     go_simp
     go_at_call 83
     refine (HCQ.out _ (HBW.out _ D3)).mono ?_
     rintro e y4 ⟨⟨v1, rfl, G4⟩, hl⟩
     obtain ⟨gv1, cv1, hv_, hv2_⟩ := G4.src
     clear hv2_
     subst hv_
     have D4 := D3.trans (hl.mono D3.size)
     have Z4 := Z3.ext (Ext.below hl)
     have R4 := own_belowI R3 hl
     have rb4 := Nat.le_trans rb3 hl.size
     have U4 := U3.of_block (hl.block _ U3.lt)
     clear hl
     try go_wp2_with fail
     refine hK.out _ _ (HS.out _ D4) (fun hHeld => ?_)
     clear hK K
     try simp only [aP]
     refine rq 9 rfl fun K hK => ?_
     refine step_nx rfl _ _ rfl _ (by first | rfl | go_simp) R4 ⟨b3, o3, none⟩ n3 c3 NX (by first | rfl | go_simp) HNL.out (HN3.out _ (HBW.out _ D4)) HN1.out (by omega) rb4 ?_
     rintro v3 y5 ⟨av3, cv3, hv3⟩ hg
     subst hv3
     obtain ⟨NB, fB, hrB⟩ := nx_row R4
     have hx := Ext.grown hg hrB (.inl rfl)
     have D5 := below_some D4 hg gl
     have Z5 := Z4.ext hx
     have G5 := G4.ext hx
     have U5 := U4.of_block (hg.block _ U4.lt (fun e => by have e := Option.some.inj e; exact absurd (two_typesI U4 (e ▸ hrB)) (by decide)))
     clear hg hx hrB
     refine hK.out _ _ (HS.out _ D5) (fun hHeld => ?_)
     clear hK K
     try simp only [aP]
     refine uq (i := 10) rfl ?_
     try simp only [aP]
     have f0 := U5.frozen 0
     have f1 := U5.frozen 1
     have f2 := U5.frozen 2
     have f3 := U5.frozen 3
     have d0 := U5.cell (i := 0) (by omega)
     have d1 := U5.cell (i := 1) (by omega)
     have d2 := U5.cell (i := 2) (by omega)
     have d3 := U5.cell (i := 3) (by omega)
     have hO := out_early (v3 := .slice av3 n3 cv3) U5 D5 Z5 G5 pl
     refine rq 12 rfl fun K hK => ?_
     go_simp
     try go_wp2_with fail
     refine hK.out _ _ (HS.out _ hO.b) (fun hHeld => ?_)
     clear hK K
     try simp only [aP]
     refine dq ?_
     go_wp2_with fail
     go_meet
     case rel => exact ⟨_, _, _, _, rfl, hO, _, _, rfl⟩
   ·go_simp
    have hl : Below (w0.drew.alloc (Obj.cells #[] 92)).heap.size (w0.drew.alloc (Obj.cells #[] 92)) ((w0.drew.alloc (Obj.cells #[] 92)).alloc (Obj.cells #[.slice none 0 0, .slice none 0 0, .slice none 0 0, .slice none 0 0] 36)) := (Below.refl _ _).alloc (Nat.le_refl _) _
    have D2 := D1.alloc D1.size (Obj.cells #[.slice none 0 0, .slice none 0 0, .slice none 0 0, .slice none 0 0] 36)
    have R2 := own_belowI R1 hl
    have rb2 := Nat.le_trans rb1 hl.size
    have U2 := wz_row (w0.drew.alloc (Obj.cells #[] 92))
    have pl : w0.heap.size ≤ (w0.drew.alloc (Obj.cells #[] 92)).heap.size := D1.size
    rw [World.size_alloc] at U2 pl
    rw [show w0.drew.heap.size = w0.heap.size from rfl] at U2 pl
    clear hl
    try go_wp2_with fail
    refine hK.out _ _ (HS.out _ D2) (fun hHeld => ?_)
    clear hK K
    try simp only [aP]
    refine rq 2 rfl fun K hK => ?_
    go_simp
    go_at_call 82
    refine (HCS.out _ (HBW.out _ D2)).mono ?_
    rintro e y3 ⟨⟨v0, rfl, Z3⟩, hl⟩
    obtain ⟨gv0, cv0, hv_, hv2_⟩ := Z3.src
    clear hv2_
    subst hv_
    have D3 := D2.trans (hl.mono D2.size)
    have R3 := own_belowI R2 hl
    have rb3 := Nat.le_trans rb2 hl.size
    have U3 := U2.of_block (hl.block _ U2.lt)
    clear hl
    try go_wp2_with fail
    refine hK.out _ _ (HS.out _ D3) (fun hHeld => ?_)
    clear hK K
    try simp only [aP]
    refine rq 5 rfl fun K hK => ?_
    go_simp
    go_at_call 83
    refine (HCQ.out _ (HBW.out _ D3)).mono ?_
    rintro e y4 ⟨⟨v1, rfl, G4⟩, hl⟩
    obtain ⟨gv1, cv1, hv_, hv2_⟩ := G4.src
    clear hv2_
    subst hv_
    have D4 := D3.trans (hl.mono D3.size)
    have Z4 := Z3.ext (Ext.below hl)
    have R4 := own_belowI R3 hl
    have rb4 := Nat.le_trans rb3 hl.size
    have U4 := U3.of_block (hl.block _ U3.lt)
    clear hl
    try go_wp2_with fail
    refine hK.out _ _ (HS.out _ D4) (fun hHeld => ?_)
    clear hK K
    try simp only [aP]
    refine rq 9 rfl fun K hK => ?_
    refine step_nx rfl _ _ rfl _ (by first | rfl | go_simp) R4 ⟨b3, o3, none⟩ n3 c3 NX (by first | rfl | go_simp) HNL.out (HN3.out _ (HBW.out _ D4)) HN1.out (by omega) rb4 ?_
    rintro v3 y5 ⟨av3, cv3, hv3⟩ hg
    subst hv3
    obtain ⟨NB, fB, hrB⟩ := nx_row R4
    have hx := Ext.grown hg hrB (.inl rfl)
    have D5 := below_some D4 hg gl
    have Z5 := Z4.ext hx
    have G5 := G4.ext hx
    have U5 := U4.of_block (hg.block _ U4.lt (fun e => by have e := Option.some.inj e; exact absurd (two_typesI U4 (e ▸ hrB)) (by decide)))
    clear hg hx hrB
    refine hK.out _ _ (HS.out _ D5) (fun hHeld => ?_)
    clear hK K
    try simp only [aP]
    refine uq (i := 10) rfl ?_
    try simp only [aP]
    have f0 := U5.frozen 0
    have f1 := U5.frozen 1
    have f2 := U5.frozen 2
    have f3 := U5.frozen 3
    have d0 := U5.cell (i := 0) (by omega)
    have d1 := U5.cell (i := 1) (by omega)
    have d2 := U5.cell (i := 2) (by omega)
    have d3 := U5.cell (i := 3) (by omega)
    have hO := out_early (v3 := .slice av3 n3 cv3) U5 D5 Z5 G5 pl
    refine rq 12 rfl fun K hK => ?_
    go_simp
    try go_wp2_with fail
    refine hK.out _ _ (HS.out _ hO.b) (fun hHeld => ?_)
    clear hK K
    try simp only [aP]
    refine dq ?_
    go_wp2_with fail
    go_meet
    case rel => exact ⟨_, _, _, _, rfl, hO, _, _, rfl⟩
  ·go_simp
   have hl : Below w0.drew.heap.size w0.drew (w0.drew.alloc (Obj.cells #[.slice none 0 0, .slice none 0 0, .slice none 0 0, .slice none 0 0] 36)) := (Below.refl _ _).alloc (Nat.le_refl _) _
   have D1 := D0.alloc D0.size (Obj.cells #[.slice none 0 0, .slice none 0 0, .slice none 0 0, .slice none 0 0] 36)
   have U1 := wz_row w0.drew
   have pl : w0.heap.size ≤ w0.drew.heap.size := D0.size
   rw [show w0.drew.heap.size = w0.heap.size from rfl] at U1 pl
   clear hl
   try go_wp2_with fail
   refine hK.out _ _ (HS.out _ D1) (fun hHeld => ?_)
   clear hK K
   try simp only [aP]
   refine wpAnyH_ready (rs := [2, 6]) (by kernel_rfl) (by simp) ?_
   refine cq rfl (fun K hK => ?_) (cq rfl (fun K hK => ?_) AllReadyH.nil)
   ·go_simp
    go_at_call 82
    refine (HCS.out _ (HBW.out _ D1)).mono ?_
    rintro e y2 ⟨⟨v0, rfl, Z2⟩, hl⟩
    obtain ⟨gv0, cv0, hv_, hv2_⟩ := Z2.src
    clear hv2_
    subst hv_
    have D2 := D1.trans (hl.mono D1.size)
    have U2 := U1.of_block (hl.block _ U1.lt)
    clear hl
    try go_wp2_with fail
    refine hK.out _ _ (HS.out _ D2) (fun hHeld => ?_)
    clear hK K
    try simp only [aP]
    refine wpAnyH_ready (rs := [5, 6]) (by kernel_rfl) (by simp) ?_
    refine cq rfl (fun K hK => ?_) (cq rfl (fun K hK => ?_) AllReadyH.nil)
    ·go_simp
     go_at_call 83
     refine (HCQ.out _ (HBW.out _ D2)).mono ?_
     rintro e y3 ⟨⟨v1, rfl, G3⟩, hl⟩
     obtain ⟨gv1, cv1, hv_, hv2_⟩ := G3.src
     clear hv2_
     subst hv_
     have D3 := D2.trans (hl.mono D2.size)
     have Z3 := Z2.ext (Ext.below hl)
     have U3 := U2.of_block (hl.block _ U2.lt)
     clear hl
     try go_wp2_with fail
     refine hK.out _ _ (HS.out _ D3) (fun hHeld => ?_)
     clear hK K
     try simp only [aP]
     refine rq 6 rfl fun K hK => ?_
     go_simp
     have hl : Below y3.heap.size y3 (y3.alloc (Obj.cells #[] 92)) := (Below.refl _ _).alloc (Nat.le_refl _) _
     have D4 := D3.alloc D3.size (Obj.cells #[] 92)
     have Z4 := Z3.ext (Ext.below hl)
     have G4 := G3.ext (Ext.below hl)
     have U4 := U3.of_block (hl.block _ U3.lt)
     have R4 := nx_nil y3
     have rb4 : y3.heap.size ≤ (y3.alloc (Obj.cells #[] 92)).heap.size := hl.size
     have gl : w0.heap.size ≤ y3.heap.size := D3.size
     clear hl
     try go_wp2_with fail
     refine hK.out _ _ (HS.out _ D4) (fun hHeld => ?_)
     clear hK K
     try simp only [aP]
     refine rq 9 rfl fun K hK => ?_
     refine step_nx rfl _ _ rfl _ (by first | rfl | go_simp) R4 ⟨b3, o3, none⟩ n3 c3 NX (by first | rfl | go_simp) HNL.out (HN3.out _ (HBW.out _ D4)) HN1.out (by omega) rb4 ?_
     rintro v3 y5 ⟨av3, cv3, hv3⟩ hg
     subst hv3
     obtain ⟨NB, fB, hrB⟩ := nx_row R4
     have hx := Ext.grown hg hrB (.inl rfl)
     have D5 := below_some D4 hg gl
     have Z5 := Z4.ext hx
     have G5 := G4.ext hx
     have U5 := U4.of_block (hg.block _ U4.lt (fun e => by have e := Option.some.inj e; exact absurd (two_typesI U4 (e ▸ hrB)) (by decide)))
     clear hg hx hrB
     refine hK.out _ _ (HS.out _ D5) (fun hHeld => ?_)
     clear hK K
     try simp only [aP]
     refine uq (i := 10) rfl ?_
     try simp only [aP]
     have f0 := U5.frozen 0
     have f1 := U5.frozen 1
     have f2 := U5.frozen 2
     have f3 := U5.frozen 3
     have d0 := U5.cell (i := 0) (by omega)
     have d1 := U5.cell (i := 1) (by omega)
     have d2 := U5.cell (i := 2) (by omega)
     have d3 := U5.cell (i := 3) (by omega)
     have hO := out_early (v3 := .slice av3 n3 cv3) U5 D5 Z5 G5 pl
     refine rq 12 rfl fun K hK => ?_
     go_simp
     try go_wp2_with fail
     refine hK.out _ _ (HS.out _ hO.b) (fun hHeld => ?_)
     clear hK K
     try simp only [aP]
     refine dq ?_
     go_wp2_with fail
     go_meet
     case rel => exact ⟨_, _, _, _, rfl, hO, _, _, rfl⟩
    ·go_simp
     have hl : Below y2.heap.size y2 (y2.alloc (Obj.cells #[] 92)) := (Below.refl _ _).alloc (Nat.le_refl _) _
     have D3 := D2.alloc D2.size (Obj.cells #[] 92)
     have Z3 := Z2.ext (Ext.below hl)
     have U3 := U2.of_block (hl.block _ U2.lt)
     have R3 := nx_nil y2
     have rb3 : y2.heap.size ≤ (y2.alloc (Obj.cells #[] 92)).heap.size := hl.size
     have gl : w0.heap.size ≤ y2.heap.size := D2.size
     clear hl
     try go_wp2_with fail
     refine hK.out _ _ (HS.out _ D3) (fun hHeld => ?_)
     clear hK K
     try simp only [aP]
     refine rq 5 rfl fun K hK => ?_
     go_simp
     go_at_call 83
     refine (HCQ.out _ (HBW.out _ D3)).mono ?_
     rintro e y4 ⟨⟨v1, rfl, G4⟩, hl⟩
     obtain ⟨gv1, cv1, hv_, hv2_⟩ := G4.src
     clear hv2_
     subst hv_
     have D4 := D3.trans (hl.mono D3.size)
     have Z4 := Z3.ext (Ext.below hl)
     have R4 := own_belowI R3 hl
     have rb4 := Nat.le_trans rb3 hl.size
     have U4 := U3.of_block (hl.block _ U3.lt)
     clear hl
     try go_wp2_with fail
     refine hK.out _ _ (HS.out _ D4) (fun hHeld => ?_)
     clear hK K
     try simp only [aP]
     refine rq 9 rfl fun K hK => ?_
     refine step_nx rfl _ _ rfl _ (by first | rfl | go_simp) R4 ⟨b3, o3, none⟩ n3 c3 NX (by first | rfl | go_simp) HNL.out (HN3.out _ (HBW.out _ D4)) HN1.out (by omega) rb4 ?_
     rintro v3 y5 ⟨av3, cv3, hv3⟩ hg
     subst hv3
     obtain ⟨NB, fB, hrB⟩ := nx_row R4
     have hx := Ext.grown hg hrB (.inl rfl)
     have D5 := below_some D4 hg gl
     have Z5 := Z4.ext hx
     have G5 := G4.ext hx
     have U5 := U4.of_block (hg.block _ U4.lt (fun e => by have e := Option.some.inj e; exact absurd (two_typesI U4 (e ▸ hrB)) (by decide)))
     clear hg hx hrB
     refine hK.out _ _ (HS.out _ D5) (fun hHeld => ?_)
     clear hK K
     try simp only [aP]
     refine uq (i := 10) rfl ?_
     try simp only [aP]
     have f0 := U5.frozen 0
     have f1 := U5.frozen 1
     have f2 := U5.frozen 2
     have f3 := U5.frozen 3
     have d0 := U5.cell (i := 0) (by omega)
     have d1 := U5.cell (i := 1) (by omega)
     have d2 := U5.cell (i := 2) (by omega)
     have d3 := U5.cell (i := 3) (by omega)
     have hO := out_early (v3 := .slice av3 n3 cv3) U5 D5 Z5 G5 pl
     refine rq 12 rfl fun K hK => ?_
     go_simp
     try go_wp2_with fail
     refine hK.out _ _ (HS.out _ hO.b) (fun hHeld => ?_)
     clear hK K
     try simp only [aP]
     refine dq ?_
     go_wp2_with fail
     go_meet
     case rel => exact ⟨_, _, _, _, rfl, hO, _, _, rfl⟩
   ·go_simp
    have hl : Below (w0.drew.alloc (Obj.cells #[.slice none 0 0, .slice none 0 0, .slice none 0 0, .slice none 0 0] 36)).heap.size (w0.drew.alloc (Obj.cells #[.slice none 0 0, .slice none 0 0, .slice none 0 0, .slice none 0 0] 36)) ((w0.drew.alloc (Obj.cells #[.slice none 0 0, .slice none 0 0, .slice none 0 0, .slice none 0 0] 36)).alloc (Obj.cells #[] 92)) := (Below.refl _ _).alloc (Nat.le_refl _) _
    have D2 := D1.alloc D1.size (Obj.cells #[] 92)
    have U2 := U1.of_block (hl.block _ U1.lt)
    have R2 := nx_nil (w0.drew.alloc (Obj.cells #[.slice none 0 0, .slice none 0 0, .slice none 0 0, .slice none 0 0] 36))
    have rb2 : (w0.drew.alloc (Obj.cells #[.slice none 0 0, .slice none 0 0, .slice none 0 0, .slice none 0 0] 36)).heap.size ≤ ((w0.drew.alloc (Obj.cells #[.slice none 0 0, .slice none 0 0, .slice none 0 0, .slice none 0 0] 36)).alloc (Obj.cells #[] 92)).heap.size := hl.size
    have gl : w0.heap.size ≤ (w0.drew.alloc (Obj.cells #[.slice none 0 0, .slice none 0 0, .slice none 0 0, .slice none 0 0] 36)).heap.size := D1.size
    clear hl
    try go_wp2_with fail
    refine hK.out _ _ (HS.out _ D2) (fun hHeld => ?_)
    clear hK K
    try simp only [aP]
    refine rq 2 rfl fun K hK => ?_
    go_simp
    go_at_call 82
    refine (HCS.out _ (HBW.out _ D2)).mono ?_
    rintro e y3 ⟨⟨v0, rfl, Z3⟩, hl⟩
    obtain ⟨gv0, cv0, hv_, hv2_⟩ := Z3.src
    clear hv2_
    subst hv_
    have D3 := D2.trans (hl.mono D2.size)
    have R3 := own_belowI R2 hl
    have rb3 := Nat.le_trans rb2 hl.size
    have U3 := U2.of_block (hl.block _ U2.lt)
    clear hl
    try go_wp2_with fail
    refine hK.out _ _ (HS.out _ D3) (fun hHeld => ?_)
    clear hK K
    try simp only [aP]
    refine rq 5 rfl fun K hK => ?_
    go_simp
    go_at_call 83
    refine (HCQ.out _ (HBW.out _ D3)).mono ?_
    rintro e y4 ⟨⟨v1, rfl, G4⟩, hl⟩
    obtain ⟨gv1, cv1, hv_, hv2_⟩ := G4.src
    clear hv2_
    subst hv_
    have D4 := D3.trans (hl.mono D3.size)
    have Z4 := Z3.ext (Ext.below hl)
    have R4 := own_belowI R3 hl
    have rb4 := Nat.le_trans rb3 hl.size
    have U4 := U3.of_block (hl.block _ U3.lt)
    clear hl
    try go_wp2_with fail
    refine hK.out _ _ (HS.out _ D4) (fun hHeld => ?_)
    clear hK K
    try simp only [aP]
    refine rq 9 rfl fun K hK => ?_
    refine step_nx rfl _ _ rfl _ (by first | rfl | go_simp) R4 ⟨b3, o3, none⟩ n3 c3 NX (by first | rfl | go_simp) HNL.out (HN3.out _ (HBW.out _ D4)) HN1.out (by omega) rb4 ?_
    rintro v3 y5 ⟨av3, cv3, hv3⟩ hg
    subst hv3
    obtain ⟨NB, fB, hrB⟩ := nx_row R4
    have hx := Ext.grown hg hrB (.inl rfl)
    have D5 := below_some D4 hg gl
    have Z5 := Z4.ext hx
    have G5 := G4.ext hx
    have U5 := U4.of_block (hg.block _ U4.lt (fun e => by have e := Option.some.inj e; exact absurd (two_typesI U4 (e ▸ hrB)) (by decide)))
    clear hg hx hrB
    refine hK.out _ _ (HS.out _ D5) (fun hHeld => ?_)
    clear hK K
    try simp only [aP]
    refine uq (i := 10) rfl ?_
    try simp only [aP]
    have f0 := U5.frozen 0
    have f1 := U5.frozen 1
    have f2 := U5.frozen 2
    have f3 := U5.frozen 3
    have d0 := U5.cell (i := 0) (by omega)
    have d1 := U5.cell (i := 1) (by omega)
    have d2 := U5.cell (i := 2) (by omega)
    have d3 := U5.cell (i := 3) (by omega)
    have hO := out_early (v3 := .slice av3 n3 cv3) U5 D5 Z5 G5 pl
    refine rq 12 rfl fun K hK => ?_
    go_simp
    try go_wp2_with fail
    refine hK.out _ _ (HS.out _ hO.b) (fun hHeld => ?_)
    clear hK K
    try simp only [aP]
    refine dq ?_
    go_wp2_with fail
    go_meet
    case rel => exact ⟨_, _, _, _, rfl, hO, _, _, rfl⟩
 case rest =>
  obtain ⟨ob, v0, v1, v3, rfl, hO, hV3⟩ := hcut
  have HV3 := Lib.hid hV3
  clear hV3
  have HO0 := Lib.hid hO
  clear hO HCS HCQ HN3 HNL HN1 HS HW0
  go_wp2_with fail
  go_loopw [4] (fun y wr => ∃ (i : Nat) (v2 : Value) (xs : List Value), i ≤ n2 ∧ y = .int .i64 (i : Int) ∧ OutR w0 st pr ob v0 v1 v2 v3 wr ∧ wr.ownsRow w0.heap.size 90 3 v2 i xs) (fun y _ => n2 - (intOf y).toNat)
  case atStart => exact ⟨0, .slice none 0 0, [], Nat.zero_le _, rfl, HO0.out, ⟨rfl, .inl ⟨rfl, rfl⟩⟩⟩
  case round =>
   clear HO0
   obtain ⟨i, v2, xs, hi, rfl, hO, hown⟩ := hrel
   have HO := Lib.hid hO
   have HOW := Lib.hid hown
   have hB : Below w.heap.size w wr := HBW.out _ hO.b
   have HBR : Hid (Below w.heap.size w wr) := hB
   obtain ⟨k0, k1, k2, k3⟩ := HBX.out _ hO.b
   have hoz : w.heap.size + 2 ≤ ob := by have := hO.lo; have := HSZ.out; omega
   have hol : ob < wr.heap.size := hO.row.lt
   have r2 : wr.cell? ⟨ob, 2, none⟩ = some v2 := hO.row.cell (i := 2) (by omega)
   by_cases hil : i < n2
   ·have hil' : (i : Int) < (n2 : Int) := by omega
    have hi0' : (0 : Int) ≤ (i : Int) := by omega
    obtain ⟨y, hy⟩ : ∃ y, pe[i]? = some y := ⟨_, List.getElem?_eq_getElem (by rw [HN2.out]; exact hil)⟩
    rcases HPE.out with h | ⟨pb, po, rfl, _, hc⟩
    ·cases h.1
    obtain ⟨a1_, c1_, q0, q1, q2, s1, t1⟩ := (hc i y hy).below hB
    rcases s1 with h | ⟨tb, to_, rfl, _, htc⟩
    ·cases h.1
    have hty : y.fTree.length ≤ 1048576 := by have := HPW.out y (List.mem_of_getElem? hy); have := ty.wtEt_len y.fTree; omega
    have HCP : Hid (∀ W, Below wr.heap.size wr W → Calls Tryz.prog 84 #[.slice (some ⟨tb, to_, none⟩) y.fTree.length c1_] W fun e w' => (∃ g c, e = .returned (.slice (some ⟨g, 0, none⟩) y.fTree.length c)) ∧ Below W.heap.size W w') := fun W h => by
     refine (tt.copy_any (enT y.fTree) tb to_ y.fTree.length c1_ W (src_enr (fun j z hz => (htc j z hz).below h)) hty).mono ?_
     rintro e w' ⟨⟨v, rfl, hv, hnn⟩, hl⟩
     rcases hv.2 with ⟨h1, _⟩ | ⟨g, c, cur, h1, _⟩
     ·exact absurd h1 hnn
     ·exact ⟨⟨g, c, by rw [h1]⟩, hl⟩
    obtain ⟨A0, hA0⟩ : ∃ P, y.fPath = P := ⟨_, rfl⟩
    obtain ⟨A2, hA2⟩ : ∃ P, y.fFrom = P := ⟨_, rfl⟩
    obtain ⟨nt, hnt⟩ : ∃ P, y.fTree.length = P := ⟨_, rfl⟩
    rw [hA0] at q0
    rw [hA2] at q2
    rw [hnt] at q1 HCP
    have hpb : pb < wr.heap.size := World.block_lt_of_cell? _ _ q0
    clear hA0 hA2 hnt hy hc htc t1 hty hB
    obtain ⟨W1, hW1⟩ : ∃ W1, W1 = wr.alloc (.cells #[.string A0, .slice (some ⟨tb, to_, none⟩) nt c1_, .string A2] 90) := ⟨_, rfl⟩
    have HW1 := Lib.hid hW1
    have HB1 : Hid (Below wr.heap.size wr W1) := by show Below _ _ _; rw [hW1]; exact (Below.refl _ _).alloc (Nat.le_refl _) _
    have HP1 : Hid (∀ W, Below W1.heap.size W1 W → (W.cell? ⟨wr.heap.size, 0, none⟩ = some (.string A0) ∧ W.cell? ⟨wr.heap.size, 1, none⟩ = some (.slice (some ⟨tb, to_, none⟩) nt c1_) ∧ W.cell? ⟨wr.heap.size, 2, none⟩ = some (.string A2)) ∧ W.frozen? ⟨wr.heap.size, 1, none⟩ = false) := fun W h => by
     have r : W1.rowIs wr.heap.size 90 3 (f4 (.string A0) (.slice (some ⟨tb, to_, none⟩) nt c1_) (.string A2) undef) := by
      rw [hW1]
      exact World.rowIs_alloc wr _ _ _ (fun i hi => by
       match i, hi with
       | 0, _ => rfl
       | 1, _ => rfl
       | 2, _ => rfl)
     have r' := r.of_block (h.block _ r.lt)
     exact ⟨⟨r'.cell (i := 0) (by omega), r'.cell (i := 1) (by omega), r'.cell (i := 2) (by omega)⟩, r'.frozen 1⟩
    have HLT : Hid (wr.heap.size < W1.heap.size) := by show _ < _; rw [hW1]; simp
    clear hW1
    go_wp2_with (go_at_call 84; rw [← HW1.out]; refine (HCP.out _ HB1.out).mono ?_; rintro e w1 ⟨⟨gt, ct, rfl⟩, hl1⟩; refine Hid.out ?_)
    refine Lib.hid ?_
    obtain ⟨⟨d0, d1, d2⟩, fz⟩ := HP1.out _ hl1
    have hb1 : Below wr.heap.size wr w1 := HB1.out.trans (hl1.mono HB1.out.size)
    have r2' : w1.cell? ⟨ob, 2, none⟩ = some v2 := (hb1.cell (p := ⟨ob, 2, none⟩) hol).trans r2
    have hne1 : ob ≠ wr.heap.size := by omega
    have hne2 : wr.heap.size ≠ ob := by omega
    obtain ⟨W3, hW3⟩ : ∃ W3, W3 = (w1.setCell ⟨wr.heap.size, 1, none⟩ (.slice (some ⟨gt, 0, none⟩) nt ct)).alloc (.cells #[.string A0, .slice (some ⟨gt, 0, none⟩) nt ct, .string A2] 90) := ⟨_, rfl⟩
    have HW3 := Lib.hid hW3
    have HB3 : Hid (Below wr.heap.size wr W3) := by
     show Below _ _ _
     rw [hW3]
     have hs := below_set (g := wr.heap.size) (i := 1) (v := .slice (some ⟨gt, 0, none⟩) nt ct) hb1 (Nat.le_refl _)
     exact hs.alloc hs.size _
    have HO3 := Lib.hid (own_belowI HOW.out HB3.out)
    have HNW : Hid (∀ j u, [Value.string A0, Value.slice (some ⟨gt, 0, none⟩) nt ct, Value.string A2][j]? = some u → W3.cell? ((⟨w1.heap.size, 0, none⟩ : Addr).add j) = some u) := by
     show ∀ j u, _ → _
     rw [hW3]
     have := cells_newI (w1.setCell ⟨wr.heap.size, 1, none⟩ (.slice (some ⟨gt, 0, none⟩) nt ct)) w1.heap.size (by rw [World.size_setCell]) 90 [Value.string A0, Value.slice (some ⟨gt, 0, none⟩) nt ct, Value.string A2]
     exact this
    have HN9 : Hid (∀ u ∈ [Value.string A0, Value.slice (some ⟨gt, 0, none⟩) nt ct, Value.string A2], u.oneCell' = true) := fun u hu => by
     simp only [List.mem_cons, List.not_mem_nil, or_false] at hu
     rcases hu with rfl | rfl | rfl <;> rfl
    have HSB := Lib.hid (Nat.le_trans HO.out.b.size HB3.out.size)
    clear hl1 hW3 hb1 q0 q1 q2 k0 k1 k3 r2 HP1 HB1 HCP
    go_wp2_with (first
     | (at_builtin; refine app_pe _ rfl _ _ rfl w0.heap.size v2 i xs rfl (by rw [← HW3.out]; exact HO3.out) ⟨w1.heap.size, 0, none⟩ 1 [Value.string A0, Value.slice (some ⟨gt, 0, none⟩) nt ct, Value.string A2] (by first | rfl | simp) rfl (by rw [← HW3.out]; exact HNW.out) HN9.out (by omega) (by rw [← HW3.out]; exact HSB.out) ?_; intro v4 w4 hown4 hg4; refine Hid.out ?_)
     | go_in)
    refine Lib.hid ?_
    rw [← HW3.out] at hg4
    obtain ⟨⟨e2, ef⟩, hO4, how4⟩ := out_step HO.out HOW.out HB3.out hg4 hown4
    have HO4 := Lib.hid hO4
    have HOW4 := Lib.hid how4
    have HV4 : Hid (∃ a c, v4 = .slice a (i + 1) c) := by
     rcases hown4.2 with ⟨_, h⟩ | ⟨g, c, cur, h, _⟩
     ·omega
     ·exact ⟨_, _, h⟩
    obtain ⟨av4, cv4, rfl⟩ := HV4.out
    clear hown4 hg4 hO4 how4 d0 d1 d2 fz r2'
    go_wp2_with fail
    go_roundw
    case rel => exact ⟨i + 1, _, _, by omega, by go_num, HO4.out, HOW4.out⟩
    case measure => simp [intOf] <;> omega
   ·have hil' : ¬ (i : Int) < (n2 : Int) := by omega
    have r0 : wr.cell? ⟨ob, 0, none⟩ = some v0 := hO.row.cell (i := 0) (by omega)
    have r1 : wr.cell? ⟨ob, 1, none⟩ = some v1 := hO.row.cell (i := 1) (by omega)
    have r3 : wr.cell? ⟨ob, 3, none⟩ = some v3 := hO.row.cell (i := 3) (by omega)
    have hrs := HRS.out _ hO.b
    have u0 : wr.cell? ⟨w.heap.size + 1, 0, none⟩ = some (.slice none 0 0) := hrs.cell (i := 0) (by omega)
    have u1 : wr.cell? ⟨w.heap.size + 1, 1, none⟩ = some (.slice none 0 0) := hrs.cell (i := 1) (by omega)
    have u2 : wr.cell? ⟨w.heap.size + 1, 2, none⟩ = some (.slice none 0 0) := hrs.cell (i := 2) (by omega)
    have u3 : wr.cell? ⟨w.heap.size + 1, 3, none⟩ = some (.slice none 0 0) := hrs.cell (i := 3) (by omega)
    have f0 := hrs.frozen 0
    have f1 := hrs.frozen 1
    have f2 := hrs.frozen 2
    have f3 := hrs.frozen 3
    have HV : Hid ((∃ g c, v0 = .slice (some ⟨g, 0, none⟩) st.length c) ∧ (∃ g c, v1 = .slice (some ⟨g, 0, none⟩) pr.length c) ∧ (∃ a c, v2 = .slice a i c) ∧ ∃ a c, v3 = .slice a n3 c) := by
     refine ⟨?_, ?_, ?_, HV3.out⟩
     ·obtain ⟨g, c, e, _⟩ := hO.z.src; exact ⟨g, c, e⟩
     ·obtain ⟨g, c, e, _⟩ := hO.q.src; exact ⟨g, c, e⟩
     ·rcases hown.2 with ⟨h1, h2⟩ | ⟨g, c, cur, h, _⟩
      ·exact ⟨none, 0, by rw [h1, h2]⟩
      ·exact ⟨_, _, h⟩
    have HEX : Hid (∀ u0 u1 u2 u3, Ext wr ((((wr.setCell ⟨w.heap.size + 1, 0, none⟩ u0).setCell ⟨w.heap.size + 1, 1, none⟩ u1).setCell ⟨w.heap.size + 1, 2, none⟩ u2).setCell ⟨w.heap.size + 1, 3, none⟩ u3)) := fun u0 u1 u2 u3 => (((Ext.set (i := 0) hrs (.inr (.inr rfl)) u0).trans (Ext.set (i := 1) (hrs.set 0 u0) (.inr (.inr rfl)) u1)).trans (Ext.set (i := 2) ((hrs.set 0 u0).set 1 u1) (.inr (.inr rfl)) u2)).trans (Ext.set (i := 3) (((hrs.set 0 u0).set 1 u1).set 2 u2) (.inr (.inr rfl)) u3)
    obtain ⟨⟨gz, cz, rfl⟩, ⟨gq, cq, rfl⟩, ⟨ap, cp, rfl⟩, ⟨an, cn, rfl⟩⟩ := HV.out
    have HFI : Hid (∀ W, Ext wr W → CpZ W (.slice (some ⟨gz, 0, none⟩) st.length cz) st ∧ CpQ W (.slice (some ⟨gq, 0, none⟩) pr.length cq) pr) := fun W h => ⟨hO.z.ext h, hO.q.ext h⟩
    have hne1 : ob ≠ w.heap.size + 1 := by omega
    have hne2 : w.heap.size + 1 ≠ ob := by omega
    clear hrs hO hown hB k0 k1 k3 HV HBX HRS HBW HPE HPW HN2 HOW HO HV3
    go_wp2_with fail
    obtain ⟨t0, t1, t2, t3⟩ := ty.stored4 (W := wr) (b := w.heap.size + 1) (v0 := .slice (some ⟨gz, 0, none⟩) st.length cz) (v1 := .slice (some ⟨gq, 0, none⟩) pr.length cq) (v2 := .slice ap i cp) (v3 := .slice an n3 cn) u0 u1 u2 u3
    have hle1 : w.heap.size ≤ w.heap.size + 1 := by omega
    exact ty.retWo (fn := Tryz.f41) Tryz.results41 rfl t0 t1 t2 t3 ⟨⟨_, _, _, _, _, _, _, _, _, _, rfl, HFI.out _ (HEX.out _ _ _ _)⟩, (((HBR.out.setCell hle1 _).setCell hle1 _).setCell hle1 _).setCell hle1 _⟩
end Go.Proofs.YtjbdklkingfmpaaGreatDoor.so
