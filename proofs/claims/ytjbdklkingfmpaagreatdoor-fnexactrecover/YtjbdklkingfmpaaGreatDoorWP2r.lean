import Derived.Test.YtjbdklkingfmpaaGreatDoorWOGr
import Derived.Test.YtjbdklkingfmpaaGreatDoorIC2r
import Derived.Test.YtjbdklkingfmpaaGreatDoorWP1r
set_option linter.unusedVariables false
set_option linter.unusedSimpArgs false
set_option maxRecDepth 100000
set_option maxHeartbeats 16000000
namespace Go.Proofs.YtjbdklkingfmpaaGreatDoor.so
open Go.ChangeShapes Go.WideShapes Go.ChangeAt Go.RowKit Go.Deep Go.Shelf Go.Maps
theorem g_gen {w : World} {g : Nat} {l : List ty.Ge} (h : pf.OwG w g (l.map geX)) : ty.GGe g (g + 1) w (some ⟨g, 0, none⟩) l := by
 obtain ⟨N, f, hN, hr, hx⟩ := h
 rw [List.length_map] at hN
 refine ⟨g, 0, _, N, f, fun _ => g, fun _ => g, rfl, Nat.le_refl _, by omega, hr, by omega, fun i x hi => ?_, fun i j _ _ => .inl (Nat.le_refl _)⟩
 have hil := (List.getElem?_eq_some_iff.1 hi).1
 obtain ⟨q0, q1⟩ := hx i (geX x) (by rw [List.getElem?_map, hi]; rfl)
 have k : ∀ {p : Nat} {v : Value}, p < N → w.cell? ⟨g, p, none⟩ = some v → f p = v := fun {p v} hp hc => by
  rw [hr.cell hp] at hc
  exact Option.some.inj hc
 refine ⟨Nat.le_refl _, by show g ≤ g + 1; omega, .inr (Nat.le_refl _), k (by omega) (by rw [Nat.zero_add]; exact q0), k (by omega) (by rw [Nat.zero_add]; exact q1)⟩
theorem g_prof {lo hi : Nat} {w : World} {b : Nat} {gs : Nat → Nat} {l : List ty.Pr} (h : pf.OwP lo hi w b gs (l.map prX)) : ty.GPr lo hi w (some ⟨b, 0, none⟩) l := by
 obtain ⟨N, f, hN, hr⟩ := h.row
 rw [List.length_map] at hN
 refine ⟨b, 0, _, N, f, gs, fun i => gs i + 1, rfl, h.blo, h.bhi, hr, by omega, fun i x hxi => ?_, fun i j hij hj => ?_⟩
 ·have hil := (List.getElem?_eq_some_iff.1 hxi).1
  have hm : (l.map prX)[i]? = some (prX x) := by rw [List.getElem?_map, hxi]; rfl
  obtain ⟨c, h1, h2, h3, h4, h5⟩ := h.ent i (prX x) hm
  obtain ⟨r1, r2, r3⟩ := h.rng i (by rw [List.length_map]; exact hil)
  have k : ∀ {p : Nat} {v : Value}, p < N → w.cell? ⟨b, p, none⟩ = some v → f p = v := fun {p v} hp hc => by
   rw [hr.cell hp] at hc
   exact Option.some.inj hc
  have hgl : (prX x).gens.length = x.fGens.length := by unfold prX; simp
  refine ⟨r1, by show gs i + 1 ≤ hi; omega, by show b < gs i ∨ gs i + 1 ≤ b; omega, some ⟨gs i, 0, none⟩, c, gs i, gs i + 1, k (by omega) (by rw [Nat.zero_add]; exact h2), k (by omega) (by rw [Nat.zero_add]; exact h3), k (by omega) (by rw [Nat.zero_add, ← hgl]; exact h4), g_gen h5, Nat.le_refl _, Nat.le_refl _⟩
 ·have := h.inj i j hij (by rw [List.length_map]; exact hj)
  show gs i + 1 ≤ gs j ∨ gs j + 1 ≤ gs i
  omega
theorem clonedPr_any (a : Option Addr) (c : Nat) (l : List ty.Pr) (w : World) (hb : ty.SrcPr none w a l) (hw : ty.wtPr l ≤ 1048576) :
  Calls Tryz.prog 87 #[.slice a l.length c] w fun e w' => (e = .returned (.slice (some ⟨w.heap.size, 0, none⟩) l.length l.length) ∧ ty.GPr w.heap.size w'.heap.size w' (some ⟨w.heap.size, 0, none⟩) l) ∧ Below w.heap.size w w' := by
 have h := pf.clonedP_any a c (l.map prX) w (src_prof hb) (by rw [wt_prof]; exact hw)
 rw [List.length_map] at h
 refine h.mono ?_
 rintro e w' ⟨rfl, ⟨gs, ho⟩, hl⟩
 exact ⟨⟨rfl, g_prof ho⟩, hl⟩
def AnW (lo : Nat) (w : World) (v : Value) (x : ty.Wo) : Prop := ∃ A0 A1 A2 A3 C0 C1 C2 C3, v = .agg #[.slice A0 x.fStore.length C0, .slice A1 x.fProfiles.length C1, .slice A2 x.fPending.length C2, .slice A3 x.fNexts.length C3] ∧ GW lo w.heap.size w x A0 A1 A2 A3
def CpW (w : World) (v : Value) (x : ty.Wo) : Prop := ∃ A0 A1 A2 A3 C0 C1 C2 C3, v = .agg #[.slice A0 x.fStore.length C0, .slice A1 x.fProfiles.length C1, .slice A2 x.fPending.length C2, .slice A3 x.fNexts.length C3] ∧ SrcW none w x A0 A1 A2 A3
def noW : ty.Wo := ⟨[], [], [], []⟩
noncomputable def recA (x : ty.Wo) : ty.Wo := if woB x = true then ⟨x.fStore, x.fProfiles, [], []⟩ else noW
theorem wclone_any (a0 a1 : Option Addr) (c0 c1 : Nat) (st : List ty.It) (pr : List ty.Pr) (w : World) (h0 : RdJ w a0 st) (hw0 : ty.wtIt st ≤ 1048576) (h1 : ty.SrcPr none w a1 pr) (hw1 : ty.wtPr pr ≤ 1048576) :
  Calls Tryz.prog 42 #[.agg #[.slice a0 st.length c0, .slice a1 pr.length c1, .slice none 0 0, .slice none 0 0]] w fun e w' => (∃ v, e = .returned v ∧ AnW w.heap.size w' v ⟨st, pr, [], []⟩) ∧ Below w.heap.size w w' := by
 have HCI := Lib.hid fun (W : World) (h : Below w.heap.size w W) => clonedI_any a0 c0 st W (h0.below h) hw0
 have HCP := Lib.hid fun (W : World) (h : Below w.heap.size w W) => clonedPr_any a1 c1 pr W (h1.below h) hw1
 obtain ⟨op, hmp⟩ : ∃ ob, ∀ W : World, (Instr.makeSlice 33 (.int .i64 0) (.int .i64 0)).run Tryz.prog W = .ok (.slice (some ⟨W.heap.size, 0, none⟩) 0 0) (W.alloc ob) := ⟨_, fun W => make0I (P := Tryz.prog) 33 90 _ 3 _ Tryz.underlying33 ty.infoPe 0 (by omega) (by omega) W⟩
 obtain ⟨on, hmn⟩ : ∃ ob, ∀ W : World, (Instr.makeSlice 34 (.int .i64 0) (.int .i64 0)).run Tryz.prog W = .ok (.slice (some ⟨W.heap.size, 0, none⟩) 0 0) (W.alloc ob) := ⟨_, fun W => make0I (P := Tryz.prog) 34 92 _ 2 _ Tryz.underlying34 ty.infoNx 0 (by omega) (by omega) W⟩
 have HGW : Hid (∀ (W : World) (b0 b1 e0 e1 lo g2 g3 : Nat), ty.GIt b0 e0 W (some ⟨b0, 0, none⟩) st → ty.GPr b1 e1 W (some ⟨b1, 0, none⟩) pr → lo ≤ b0 → e0 ≤ b1 → b1 ≤ e1 → e1 ≤ W.heap.size → lo ≤ W.heap.size → b0 ≤ e0 → AnW lo W (.agg #[.slice (some ⟨b0, 0, none⟩) st.length st.length, .slice (some ⟨b1, 0, none⟩) pr.length pr.length, .slice (some ⟨g2, 0, none⟩) 0 0, .slice (some ⟨g3, 0, none⟩) 0 0]) ⟨st, pr, [], []⟩) := fun W b0 b1 e0 e1 lo g2 g3 k0 k1 p0 p1 p2 p3 p4 p5 => ⟨_, _, _, _, _, _, _, _, rfl, b0, e0, b1, e1, lo, lo, lo, lo, ⟨⟨.inr k0, p0, by omega⟩, ⟨.inr k1, by omega, p3⟩, ⟨.inl rfl, Nat.le_refl _, p4⟩, ⟨.inl rfl, Nat.le_refl _, p4⟩⟩, ⟨by omega, by omega, by omega, by omega, by omega, by omega⟩, Nat.le_refl _⟩
 clear h0 h1 hw0 hw1
 generalize st.length = n0 at *
 generalize pr.length = n1 at *
 obtain ⟨W0, hW0⟩ : ∃ W0, W0 = ((w.alloc (.cells #[.slice a0 n0 c0, .slice a1 n1 c1, .slice none 0 0, .slice none 0 0] 36)).alloc (.cells #[.slice none 0 0, .slice none 0 0, .slice none 0 0, .slice none 0 0] 36)) := ⟨_, rfl⟩
 have HZ0 : Hid (W0.heap.size = w.heap.size + 2) := by show _ = _; rw [hW0]; simp
 have HB0 : Hid (Below w.heap.size w W0) := by show Below _ _ _; rw [hW0]; exact ((Below.refl _ _).alloc (Nat.le_refl _) _).alloc (by simp) _
 have HC0 : Hid (∀ W, Below W0.heap.size W0 W → WoC W w.heap.size (.slice a0 n0 c0) (.slice a1 n1 c1) (.slice none 0 0) (.slice none 0 0)) := fun W h => by
  have k := fun j => h.cell (p := ⟨w.heap.size, j, none⟩) (by show w.heap.size < _; rw [HZ0.out]; omega)
  refine ⟨(k 0).trans ?_, (k 1).trans ?_, (k 2).trans ?_, (k 3).trans ?_⟩ <;> (rw [hW0]; simp [go_sem])
 have HR0 : Hid (∀ W, Below W0.heap.size W0 W → W.rowIs (w.heap.size + 1) 36 4 (fun _ => .slice none 0 0)) := fun W h => by
  refine World.rowIs.of_block (w := W0) ?_ (h.block _ (by rw [HZ0.out]; omega))
  rw [hW0]
  have := World.rowIs_alloc (w.alloc (.cells #[.slice a0 n0 c0, .slice a1 n1 c1, .slice none 0 0, .slice none 0 0] 36)) #[Value.slice none 0 0, .slice none 0 0, .slice none 0 0, .slice none 0 0] 36 (fun _ => .slice none 0 0) (fun i hi => by
   simp only [List.size_toArray, List.length_cons, List.length_nil] at hi
   rcases i with _ | _ | _ | _ | i
   ·rfl
   ·rfl
   ·rfl
   ·rfl
   ·omega)
  simpa using this
 have HA1 : Hid (∀ ob, Below W0.heap.size W0 (((w.alloc (.cells #[.slice a0 n0 c0, .slice a1 n1 c1, .slice none 0 0, .slice none 0 0] 36)).alloc (.cells #[.slice none 0 0, .slice none 0 0, .slice none 0 0, .slice none 0 0] 36)).alloc ob)) := fun ob => by rw [← hW0]; exact (Below.refl _ _).alloc (Nat.le_refl _) _
 clear hW0
 go_enter Tryz.func42, Tryz.ntmps42
 go_wp2
 go_loopw [3, 5, 16] (fun v _ y wr => y = .int .i64 0 ∧ (∃ g : Nat, v = .slice (some ⟨g, 0, none⟩) 0 0) ∧ Below W0.heap.size W0 wr) (fun _ _ _ _ => 0)
 case atStart => exact ⟨rfl, ⟨_, rfl⟩, HA1.out _⟩
 case round =>
  obtain ⟨rfl, ⟨g2, rfl⟩, hb1⟩ := hrel
  obtain ⟨k0, k1, k2, k3⟩ := HC0.out _ hb1
  have HB1 : Hid (Below W0.heap.size W0 wr) := hb1
  have HA2 : Hid (∀ ob, Below W0.heap.size W0 (wr.alloc ob)) := fun ob => hb1.alloc hb1.size _
  obtain ⟨j0, j1, j2, j3⟩ := HC0.out _ (HA2.out on)
  clear hb1
  go_wp2
  clear k0 k1 k2 k3 j0 j1 j2 j3
  go_loopw [6, 8, 41] (fun v _ y wr => y = .int .i64 0 ∧ (∃ g : Nat, v = .slice (some ⟨g, 0, none⟩) 0 0) ∧ Below W0.heap.size W0 wr) (fun _ _ _ _ => 0)
  case atStart => exact ⟨rfl, ⟨_, rfl⟩, HA2.out _⟩
  case round =>
   clear HB1 HA2
   obtain ⟨rfl, ⟨g3, rfl⟩, hb2⟩ := hrel
   have HB2 : Hid (Below W0.heap.size W0 wr) := hb2
   have HBW : Hid (Below w.heap.size w wr) := HB0.out.trans (hb2.mono HB0.out.size)
   have X0 := HC0.out _ hb2
   have HS : Hid (∀ W, Below wr.heap.size wr W → W.cell? ⟨w.heap.size, 0, none⟩ = some (.slice a0 n0 c0) ∧ W.cell? ⟨w.heap.size, 1, none⟩ = some (.slice a1 n1 c1)) := fun W h => by
    have := HC0.out W (HB2.out.trans (h.mono HB2.out.size))
    exact ⟨this.1, this.2.1⟩
   have HRW : Hid (∀ W, Below wr.heap.size wr W → W.rowIs (w.heap.size + 1) 36 4 (fun _ => .slice none 0 0)) := fun W h => HR0.out W (HB2.out.trans (h.mono HB2.out.size))
   have hzw : w.heap.size + 2 ≤ wr.heap.size := by have := hb2.size; rw [HZ0.out] at this; exact this
   obtain ⟨k0, k1, k2, k3⟩ := X0
   clear hb2 HC0 HR0 HA1
   go_wp2_with fail
   go_region_held3 (fun W => W.cell? ⟨w.heap.size, 0, none⟩ = some (.slice a0 n0 c0) ∧ W.cell? ⟨w.heap.size, 1, none⟩ = some (.slice a1 n1 c1))
    (first | exact HS.out _ hb6 | exact HS.out _ hb5 | exact HS.out _ (Below.refl _ _).drew | exact HS.out _ (Below.refl _ _) | go_keep)
    (first
     | ((go_at_call 86; refine (HCI.out _ HBW.out.drew).mono ?_; rintro e w5 ⟨⟨rfl, hg5⟩, hl5⟩; have hb5 : Below wr.heap.size wr w5 := (Below.refl wr.heap.size wr).drew.trans hl5; have hB5 : Below w.heap.size w w5 := HBW.out.trans (hb5.mono HBW.out.size)))
     | ((go_at_call 87; refine (HCP.out _ hB5).mono ?_; rintro e w6 ⟨⟨rfl, hg6⟩, hl6⟩; have hb6 : Below wr.heap.size wr w6 := hb5.trans (hl6.mono hb5.size); have hB6 : Below w.heap.size w w6 := HBW.out.trans (hb6.mono HBW.out.size); have hrx := HRW.out w6 hb6; have u0 := hrx.cell (i := 0) (by omega); have u1 := hrx.cell (i := 1) (by omega); have u2 := hrx.cell (i := 2) (by omega); have u3 := hrx.cell (i := 3) (by omega); have f0 := hrx.frozen 0; have f1 := hrx.frozen 1; have f2 := hrx.frozen 2; have f3 := hrx.frozen 3)))
   go_wp2_with fail
   obtain ⟨t0, t1, t2, t3⟩ := ty.stored4 (W := w6) (b := w.heap.size + 1) (v0 := .slice (some ⟨wr.heap.size, 0, none⟩) n0 n0) (v1 := .slice (some ⟨w5.heap.size, 0, none⟩) n1 n1) (v2 := .slice (some ⟨g2, 0, none⟩) 0 0) (v3 := .slice (some ⟨g3, 0, none⟩) 0 0) u0 u1 u2 u3
   have hle1 : w.heap.size ≤ w.heap.size + 1 := by omega
   have z5 := hb5.size
   have z6 := hl6.size
   have hX : ∀ p, p ≠ w.heap.size + 1 → ((((w6.setCell ⟨w.heap.size + 1, 0, none⟩ (.slice (some ⟨wr.heap.size, 0, none⟩) n0 n0)).setCell ⟨w.heap.size + 1, 1, none⟩ (.slice (some ⟨w5.heap.size, 0, none⟩) n1 n1)).setCell ⟨w.heap.size + 1, 2, none⟩ (.slice (some ⟨g2, 0, none⟩) 0 0)).setCell ⟨w.heap.size + 1, 3, none⟩ (.slice (some ⟨g3, 0, none⟩) 0 0)).heap[p]? = w6.heap[p]? := fun p hp => (ty.sb hp).trans ((ty.sb hp).trans ((ty.sb hp).trans (ty.sb hp)))
   exact ty.retWo (fn := Tryz.f42) Tryz.results42 rfl t0 t1 t2 t3 ⟨⟨_, rfl, HGW.out _ wr.heap.size w5.heap.size w5.heap.size w6.heap.size w.heap.size g2 g3 (hg5.kept fun p p1 p2 => (hX p (by have p3 : wr.heap.size ≤ p := p1; omega)).trans (hl6.block p p2)) (hg6.kept fun p p1 p2 => hX p (by omega)) (by omega) (Nat.le_refl _) z6 (by simp) (by simp; omega) z5⟩, (((hB6.setCell hle1 _).setCell hle1 _).setCell hle1 _).setCell hle1 _⟩
theorem an_no (lo : Nat) (w : World) (h : lo ≤ w.heap.size) : AnW lo w (.agg #[.slice none 0 0, .slice none 0 0, .slice none 0 0, .slice none 0 0]) noW :=
 ⟨none, none, none, none, 0, 0, 0, 0, rfl, lo, lo, lo, lo, lo, lo, lo, lo, ⟨⟨.inl rfl, Nat.le_refl _, h⟩, ⟨.inl rfl, Nat.le_refl _, h⟩, ⟨.inl rfl, Nat.le_refl _, h⟩, ⟨.inl rfl, Nat.le_refl _, h⟩⟩, ⟨.inl (Nat.le_refl _), .inl (Nat.le_refl _), .inl (Nat.le_refl _), .inl (Nat.le_refl _), .inl (Nat.le_refl _), .inl (Nat.le_refl _)⟩, Nat.le_refl _⟩
theorem rec_no {x : ty.Wo} (h : woB x = false) : recA x = noW := by unfold recA; rw [if_neg (by rw [h]; decide)]
theorem rec_yes {x : ty.Wo} (h : woB x = true) : recA x = ⟨x.fStore, x.fProfiles, [], []⟩ := by unfold recA; rw [if_pos h]
theorem GW.mono {lo hi lo' hi' : Nat} {w : World} {x : ty.Wo} {a0 a1 a2 a3 : Option Addr} (h : GW lo hi w x a0 a1 a2 a3) (h1 : lo' ≤ lo) (h2 : hi ≤ hi') (h3 : hi' ≤ w.heap.size) : GW lo' hi' w x a0 a1 a2 a3 := by
 obtain ⟨s0, e0, s1, e1, s2, e2, s3, e3, ⟨⟨q0, l0, k0⟩, ⟨q1, l1, k1⟩, ⟨q2, l2, k2⟩, ⟨q3, l3, k3⟩⟩, hd, hz⟩ := h
 exact ⟨s0, e0, s1, e1, s2, e2, s3, e3, ⟨⟨q0, by omega, by omega⟩, ⟨q1, by omega, by omega⟩, ⟨q2, by omega, by omega⟩, ⟨q3, by omega, by omega⟩⟩, hd, h3⟩
theorem irec_any (lo : Nat) (x : ty.Wo) (a0 a1 a2 a3 : Option Addr) (c0 c1 c2 c3 : Nat) (w : World) (hS : SrcW (some lo) w x a0 a1 a2 a3) (hw : ty.wt1Wo x ≤ 1048576) (hM : tt.ML w) (hT : wd.TabB w) :
  Calls Tryz.prog 15 #[.agg #[.slice a0 x.fStore.length c0, .slice a1 x.fProfiles.length c1, .slice a2 x.fPending.length c2, .slice a3 x.fNexts.length c3]] w fun e w' => (∃ v, e = .returned v ∧ AnW w.heap.size w' v (recA x)) ∧ Below w.heap.size w w' := by
 have hws : ty.wtIt x.fStore ≤ 1048576 ∧ ty.wtPr x.fProfiles ≤ 1048576 := by unfold ty.wt1Wo at hw; omega
 have HWO := Lib.hid fun (W : World) (h : Below w.heap.size w W) => iwo_any lo x a0 a1 a2 a3 c0 c1 c2 c3 W (hS.st.below h) (hS.pr.below h) (hS.pe.below h) (hS.nx.below h) hw (hM.below h) (hT.below h)
 have HCL := Lib.hid fun (W : World) (h : Below w.heap.size w W) => wclone_any a0 a1 c0 c1 x.fStore x.fProfiles W (RdJ.of (hS.st.below h)) hws.1 (hS.pr.any.below h) hws.2
 have HNO : Hid (woB x = false → recA x = noW) := rec_no
 have HYE : Hid (woB x = true → recA x = ⟨x.fStore, x.fProfiles, [], []⟩) := rec_yes
 obtain ⟨R, hR⟩ : ∃ R, recA x = R := ⟨_, rfl⟩
 rw [hR] at HNO HYE ⊢
 clear hS hw hM hT hws hR
 generalize x.fStore.length = n0 at *
 generalize x.fProfiles.length = n1 at *
 generalize x.fPending.length = n2 at *
 generalize x.fNexts.length = n3 at *
 obtain ⟨W0, hW0⟩ : ∃ W0, W0 = ((w.alloc (.cells #[.slice a0 n0 c0, .slice a1 n1 c1, .slice a2 n2 c2, .slice a3 n3 c3] 36)).alloc (.cells #[.slice none 0 0, .slice none 0 0, .slice none 0 0, .slice none 0 0] 36)) := ⟨_, rfl⟩
 have HZ0 : Hid (W0.heap.size = w.heap.size + 2) := by show _ = _; rw [hW0]; simp
 have HB0 : Hid (Below w.heap.size w W0) := by show Below _ _ _; rw [hW0]; exact ((Below.refl _ _).alloc (Nat.le_refl _) _).alloc (by simp) _
 have HW0 := Lib.hid hW0
 have HC0 : Hid (∀ W, Below W0.heap.size W0 W → WoC W w.heap.size (.slice a0 n0 c0) (.slice a1 n1 c1) (.slice a2 n2 c2) (.slice a3 n3 c3)) := fun W h => by
  have k := fun j => h.cell (p := ⟨w.heap.size, j, none⟩) (by show w.heap.size < _; rw [HZ0.out]; omega)
  refine ⟨(k 0).trans ?_, (k 1).trans ?_, (k 2).trans ?_, (k 3).trans ?_⟩ <;> (rw [hW0]; simp [go_sem])
 have HR0 : Hid (∀ W, Below W0.heap.size W0 W → W.rowIs (w.heap.size + 1) 36 4 (fun _ => .slice none 0 0)) := fun W h => by
  refine World.rowIs.of_block (w := W0) ?_ (h.block _ (by rw [HZ0.out]; omega))
  rw [hW0]
  have := World.rowIs_alloc (w.alloc (.cells #[.slice a0 n0 c0, .slice a1 n1 c1, .slice a2 n2 c2, .slice a3 n3 c3] 36)) #[Value.slice none 0 0, .slice none 0 0, .slice none 0 0, .slice none 0 0] 36 (fun _ => .slice none 0 0) (fun i hi => by
   simp only [List.size_toArray, List.length_cons, List.length_nil] at hi
   rcases i with _ | _ | _ | _ | i
   ·rfl
   ·rfl
   ·rfl
   ·rfl
   ·omega)
  simpa using this
 have hle1 : w.heap.size ≤ w.heap.size + 1 := by omega
 clear hW0
 cases hwb : woB x with
 | false =>
  rw [hwb] at HWO
  have HE : Hid (R = noW) := HNO.out hwb
  clear HNO HYE HCL hwb
  go_enter Tryz.func15, Tryz.ntmps15
  go_wp2_with (go_at_call 29; refine (HWO.out _ (by rw [← HW0.out]; exact HB0.out)).mono ?_; rintro e w1 ⟨rfl, hl1⟩; rw [← HW0.out] at hl1; have hrx := HR0.out w1 hl1; have u0 := hrx.cell (i := 0) (by omega); have u1 := hrx.cell (i := 1) (by omega); have u2 := hrx.cell (i := 2) (by omega); have u3 := hrx.cell (i := 3) (by omega); have f0 := hrx.frozen 0; have f1 := hrx.frozen 1; have f2 := hrx.frozen 2; have f3 := hrx.frozen 3)
  obtain ⟨t0, t1, t2, t3⟩ := ty.stored4 (W := w1) (b := w.heap.size + 1) (v0 := .slice none 0 0) (v1 := .slice none 0 0) (v2 := .slice none 0 0) (v3 := .slice none 0 0) u0 u1 u2 u3
  have hB1 : Below w.heap.size w w1 := HB0.out.trans (hl1.mono HB0.out.size)
  have hBX : Below w.heap.size w ((((w1.setCell ⟨w.heap.size + 1, 0, none⟩ (.slice none 0 0)).setCell ⟨w.heap.size + 1, 1, none⟩ (.slice none 0 0)).setCell ⟨w.heap.size + 1, 2, none⟩ (.slice none 0 0)).setCell ⟨w.heap.size + 1, 3, none⟩ (.slice none 0 0)) := (((hB1.setCell hle1 _).setCell hle1 _).setCell hle1 _).setCell hle1 _
  exact ty.retWo (fn := Tryz.f15) Tryz.results15 rfl t0 t1 t2 t3 ⟨⟨_, rfl, by rw [HE.out]; exact an_no _ _ hBX.size⟩, hBX⟩
 | true =>
  rw [hwb] at HWO
  have HE := Lib.hid (HYE.out hwb)
  clear HNO HYE hwb
  go_enter Tryz.func15, Tryz.ntmps15
  go_wp2_with (first
   | (go_at_call 29; refine (HWO.out _ (by rw [← HW0.out]; exact HB0.out)).mono ?_; rintro e w1 ⟨rfl, hl1⟩; rw [← HW0.out] at hl1; have hB1 : Below w.heap.size w w1 := HB0.out.trans (hl1.mono HB0.out.size); obtain ⟨k0, k1, k2, k3⟩ := HC0.out _ hl1)
   | (go_at_call 42; refine (HCL.out _ hB1).mono ?_; rintro e w2 ⟨⟨v2, rfl, hv2⟩, hl2⟩; have hb2 : Below W0.heap.size W0 w2 := hl1.trans (hl2.mono hl1.size); have hrx := HR0.out w2 hb2; have u0 := hrx.cell (i := 0) (by omega); have u1 := hrx.cell (i := 1) (by omega); have u2 := hrx.cell (i := 2) (by omega); have u3 := hrx.cell (i := 3) (by omega); have f0 := hrx.frozen 0; have f1 := hrx.frozen 1; have f2 := hrx.frozen 2; have f3 := hrx.frozen 3; obtain ⟨A0, A1, A2, A3, C0, C1, C2, C3, rfl, hg2⟩ := hv2))
  obtain ⟨m0, m1, hm0, hm1⟩ : ∃ m0 m1, x.fStore.length = m0 ∧ x.fProfiles.length = m1 := ⟨_, _, rfl, rfl⟩
  have hz2 := hl1.size
  have hz0 := HZ0.out
  obtain ⟨t0, t1, t2, t3⟩ := ty.stored4 (W := w2) (b := w.heap.size + 1) (v0 := .slice A0 x.fStore.length C0) (v1 := .slice A1 x.fProfiles.length C1) (v2 := .slice A2 0 C2) (v3 := .slice A3 0 C3) u0 u1 u2 u3
  have hB2 : Below w.heap.size w w2 := hB1.trans (hl2.mono hB1.size)
  have hX : ∀ p, p ≠ w.heap.size + 1 → ((((w2.setCell ⟨w.heap.size + 1, 0, none⟩ (.slice A0 x.fStore.length C0)).setCell ⟨w.heap.size + 1, 1, none⟩ (.slice A1 x.fProfiles.length C1)).setCell ⟨w.heap.size + 1, 2, none⟩ (.slice A2 0 C2)).setCell ⟨w.heap.size + 1, 3, none⟩ (.slice A3 0 C3)).heap[p]? = w2.heap[p]? := fun p hp => (ty.sb hp).trans ((ty.sb hp).trans ((ty.sb hp).trans (ty.sb hp)))
  exact ty.retWo (fn := Tryz.f15) Tryz.results15 rfl t0 t1 t2 t3 ⟨⟨_, rfl, by
   rw [HE.out]
   refine ⟨A0, A1, A2, A3, C0, C1, C2, C3, rfl, ?_⟩
   have hk := hg2.kept (w' := ((((w2.setCell ⟨w.heap.size + 1, 0, none⟩ (.slice A0 x.fStore.length C0)).setCell ⟨w.heap.size + 1, 1, none⟩ (.slice A1 x.fProfiles.length C1)).setCell ⟨w.heap.size + 1, 2, none⟩ (.slice A2 0 C2)).setCell ⟨w.heap.size + 1, 3, none⟩ (.slice A3 0 C3))) (fun p p1 p2 => hX p (by omega)) (by simp)
   exact hk.mono hB1.size (by simp) (Nat.le_refl _)⟩, (((hB2.setCell hle1 _).setCell hle1 _).setCell hle1 _).setCell hle1 _⟩
end Go.Proofs.YtjbdklkingfmpaaGreatDoor.so
