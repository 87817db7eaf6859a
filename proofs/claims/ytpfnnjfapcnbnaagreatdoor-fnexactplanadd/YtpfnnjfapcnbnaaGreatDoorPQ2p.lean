import Derived.Test.YtpfnnjfapcnbnaaGreatDoorPQ1p
import Derived.Test.YtpfnnjfapcnbnaaGreatDoorAI2p
import Derived.Test.YtpfnnjfapcnbnaaGreatDoorWO1p
import Derived.Test.YtpfnnjfapcnbnaaGreatDoorAI1p
set_option linter.unusedVariables false
set_option linter.unusedSimpArgs false
set_option maxRecDepth 100000
set_option maxHeartbeats 16000000
namespace Go.Proofs.YtpfnnjfapcnbnaaGreatDoor.so
open Go.ChangeShapes Go.WideShapes Go.ChangeAt Go.RowKit Go.Deep Go.Shelf Go.Maps
noncomputable def okP (p fr : ByteArray) (t : List ty.Et) : Bool := wd.aokB p && (frB fr && tt.treeB (enT t) t.length)
def plW (p fr : ByteArray) (t : List ty.Et) : List ty.Wr := [⟨1, ⟨#[]⟩, p, t, fr, 0⟩, ⟨2, ⟨#[]⟩, p, [], ⟨#[]⟩, 0⟩]
noncomputable def adgL (x : ty.Wo) (p fr : ByteArray) (t : List ty.Et) : List ty.Wr := if okP p fr t = true ∧ addC x.fStore p t < 2 ∧ x.fPending.length ≠ 20 then plW p fr t else []
noncomputable def plaA (x : ty.Wo) (p fr : ByteArray) (t : List ty.Et) : List ty.Wr := if woB x = true then adgL x p fr t else []
def RdKV (w : World) (v : Value) (l : List ty.Wr) : Prop := ∃ a c, v = .slice a l.length c ∧ RdK w a l
theorem rdk_nil (w : World) : RdKV w (.slice none 0 0) [] := ⟨none, 0, rfl, fun i x h => by simp at h⟩
theorem pla_bd {x : ty.Wo} {p fr : ByteArray} {t : List ty.Et} (hp : p.size ≤ 1048576) (hf : fr.size ≤ 1048576) (ht : ty.wtEt t ≤ 1048576) : ∀ y ∈ adgL x p fr t, BdW y := fun y hy => by
 unfold adgL at hy
 split at hy
 ·unfold plW at hy
  simp only [List.mem_cons, List.not_mem_nil, or_false] at hy
  rcases hy with rfl | rfl
  ·exact ⟨Nat.zero_le _, hp, hf, ht⟩
  ·exact ⟨Nat.zero_le _, hp, Nat.zero_le _, Nat.zero_le _⟩
 ·cases hy
theorem pla_len (x : ty.Wo) (p fr : ByteArray) (t : List ty.Et) : (adgL x p fr t).length ≤ 2 := by
 unfold adgL
 split
 ·exact Nat.le_refl _
 ·exact Nat.zero_le _
theorem adg_any (lo lo2 : Nat) (x : ty.Wo) (p fr : ByteArray) (t : List ty.Et) (a0 a1 a2 a3 b2 : Option Addr) (n1 c1 c2 n3 c3 : Nat) (w : World) (h0 : ty.SrcIt (some lo) w a0 x.fStore) (hw : ty.wtIt x.fStore ≤ 1048576) (hst : stB x.fStore = true) (ht : ty.SrcEt (some lo2) w b2 t) (hwt : ty.wtEt t ≤ 1048576) (hpz : p.size ≤ 1048576) (hfz : fr.size ≤ 1048576) (hpn : x.fPending.length ≤ 1048576) (hm : tt.ML w) (hT : wd.TabB w) :
  Calls Tryz.prog 67 #[.agg #[.slice a0 x.fStore.length x.fStore.length, .slice a1 n1 c1, .slice a2 x.fPending.length c2, .slice a3 n3 c3], .agg #[.string p, .slice b2 t.length t.length, .string fr]] w fun e w' => (∃ v c, e = .returned (.tuple #[v, .int .i64 c]) ∧ RdKV w' v (adgL x p fr t)) ∧ Below w.heap.size w w' := by
 have htl : t.length ≤ 1048576 := by have := ty.wtEt_len t; omega
 obtain ⟨tb, to_, rfl, htc⟩ : ∃ tb to_, b2 = some ⟨tb, to_, none⟩ ∧ ∀ (i : Nat) (x : ty.Et), t[i]? = some x → ty.CEt (some lo2) w tb (to_ + i * 4) x := by
  rcases ht with h | ⟨b, o, e, _, hc⟩
  ·cases h.1
  ·exact ⟨b, o, e, hc⟩
 have hR : tt.EnR w tb to_ t.length (enT t) := src_enr htc
 have HPE : Hid (∀ W, Below w.heap.size w W → Calls Tryz.prog 125 #[.agg #[.string p, .slice (some ⟨tb, to_, none⟩) t.length t.length, .string fr]] W fun e w' => e = .returned (.bool (okP p fr t)) ∧ Below W.heap.size W w') := fun W h => peok_any p fr _ _ _ _ hpz hfz W (hT.below h) (fun W' h' => tt.itree_any (enT t) tb to_ t.length t.length W' (hR.below (h.trans (h'.mono h.size))) (small_enr hwt) htl (hm.below (h.trans (h'.mono h.size))) (tt.at_any _))
 have HWI : Hid (okP p fr t = true → ∀ W, Below w.heap.size w W → Calls Tryz.prog 58 #[.slice a0 x.fStore.length x.fStore.length, .string p, .slice (some ⟨tb, to_, none⟩) t.length t.length, .string fr] W fun e w' => (∃ v, e = .returned (.tuple #[v, .int .i64 (addC x.fStore p t)])) ∧ Below W.heap.size W w') := fun h W hB => by
  unfold okP at h
  simp only [Bool.and_eq_true] at h
  refine (iwith_any lo lo2 a0 (some ⟨tb, to_, none⟩) x.fStore p fr t W (h0.below hB) hw (ht.below hB) hwt hst h.1 hpz h.2.2 (hm.below hB) (hT.below hB)).mono ?_
  rintro e w' ⟨⟨v, rfl, _⟩, hl⟩
  exact ⟨⟨v, rfl⟩, hl⟩
 have HRT : Hid (∀ W, Below w.heap.size w W → RdE W (some ⟨tb, to_, none⟩) t) := fun W h => (RdE.of ht).below h
 have HNO : Hid (¬ (okP p fr t = true ∧ addC x.fStore p t < 2 ∧ x.fPending.length ≠ 20) → adgL x p fr t = []) := fun h => by unfold adgL; rw [if_neg h]
 have HYE : Hid (okP p fr t = true ∧ addC x.fStore p t < 2 ∧ x.fPending.length ≠ 20 → adgL x p fr t = plW p fr t) := fun h => by unfold adgL; rw [if_pos h]
 clear h0 hw hst ht hwt hpz hfz hm hT htc hR
 generalize x.fStore.length = n0 at *
 generalize addC x.fStore p t = C at *
 generalize x.fPending.length = n2 at *
 obtain ⟨W0, hW0⟩ : ∃ W0, W0 = (w.alloc (.cells #[.slice a0 n0 n0, .slice a1 n1 c1, .slice a2 n2 c2, .slice a3 n3 c3] 35)).alloc (.cells #[.string p, .slice (some ⟨tb, to_, none⟩) t.length t.length, .string fr] 65) := ⟨_, rfl⟩
 have HW0 : Hid (W0 = (w.alloc (.cells #[.slice a0 n0 n0, .slice a1 n1 c1, .slice a2 n2 c2, .slice a3 n3 c3] 35)).alloc (.cells #[.string p, .slice (some ⟨tb, to_, none⟩) t.length t.length, .string fr] 65)) := hW0
 have HB0 : Hid (Below w.heap.size w W0) := by show Below _ _ _; rw [hW0]; exact ((Below.refl _ _).alloc (Nat.le_refl _) _).alloc (by simp) _
 have HZ0 : Hid (W0.heap.size = w.heap.size + 2) := by show _ = _; rw [hW0]; simp
 have HBX : Hid (∀ W : World, Below W0.heap.size W0 W → (W.cell? ⟨w.heap.size, 0, none⟩ = some (.slice a0 n0 n0) ∧ W.cell? ⟨w.heap.size, 2, none⟩ = some (.slice a2 n2 c2)) ∧ W.cell? ⟨w.heap.size + 1, 0, none⟩ = some (.string p) ∧ W.cell? ⟨w.heap.size + 1, 1, none⟩ = some (.slice (some ⟨tb, to_, none⟩) t.length t.length) ∧ W.cell? ⟨w.heap.size + 1, 2, none⟩ = some (.string fr)) := fun W hW => by
  have k := fun j => hW.cell (p := ⟨w.heap.size, j, none⟩) (by show w.heap.size < _; rw [HZ0.out]; omega)
  have k' := fun j => hW.cell (p := ⟨w.heap.size + 1, j, none⟩) (by show w.heap.size + 1 < _; rw [HZ0.out]; omega)
  rw [k 0, k 2, k' 0, k' 1, k' 2, hW0]
  exact ⟨⟨by simp [go_sem], by simp [go_sem]⟩, by simp [go_sem], by simp [go_sem], by simp [go_sem]⟩
 have HPE0 := Lib.hid (HPE.out W0 HB0.out)
 rw [hW0] at HPE0
 clear hW0 htl
 generalize okP p fr t = B at *
 cases B with
 | false =>
  rw [HNO.out (fun h => by cases h.1)]
  go_enter Tryz.func67, Tryz.ntmps67
  go_wp2_with (first
   | (go_at_call 125; refine (HPE0.out).mono ?_; rintro e w1 ⟨rfl, hl1⟩; rw [← HW0.out] at hl1))
  go_ret2
  exact ⟨⟨_, _, rfl, rdk_nil _⟩, HB0.out.trans (hl1.mono HB0.out.size)⟩
 | true =>
  have HWI1 := Lib.hid (HWI.out rfl)
  go_enter Tryz.func67, Tryz.ntmps67
  go_wp2_with (first
   | (go_at_call 125; refine (HPE0.out).mono ?_; rintro e w1 ⟨rfl, hl1⟩; rw [← HW0.out] at hl1; have hb1 : Below w.heap.size w w1 := HB0.out.trans (hl1.mono HB0.out.size); obtain ⟨⟨x0, x2⟩, y0, y1, y2⟩ := HBX.out w1 hl1)
   | (go_at_call 58; refine (HWI1.out _ hb1).mono ?_; rintro e w2 ⟨⟨v2, rfl⟩, hl2⟩; have hd2 : Below W0.heap.size W0 w2 := hl1.trans (hl2.mono hl1.size); obtain ⟨⟨z0, z2⟩, u0, u1, u2⟩ := HBX.out w2 hd2))
  ·rename_i h1 h2
   have hn : n2 = 20 := by
    rcases h2 with h | h
    ·omega
    ·have := eq_of_beq h; omega
   rw [HNO.out (fun h => h.2.2 hn)]
   go_ret2
   first | exact ⟨⟨_, _, rfl, rdk_nil _⟩, hb1.trans (hl2.mono hb1.size)⟩ | exact ⟨⟨_, ⟨_, rfl⟩, rdk_nil _⟩, hb1.trans (hl2.mono hb1.size)⟩
  ·rename_i h1 h2
   have hn : n2 ≠ 20 := fun e => by subst e; have := h2.2; revert this; decide
   rw [HYE.out ⟨trivial, h1, hn⟩]
   have hb2 : Below w.heap.size w w2 := hb1.trans (hl2.mono hb1.size)
   go_ret2
   have hbz : ∀ ob, Below w.heap.size w (w2.alloc ob) := fun ob => hb2.alloc hb2.size ob
   refine ⟨⟨_, _, rfl, some ⟨w2.heap.size, 0, none⟩, 2, rfl, fun i y hy => ?_⟩, hbz _⟩
   rcases i with _ | _ | i
   ·cases hy
    exact ⟨w2.heap.size, 0, _, _, rfl, ⟨(World.cell?_alloc_new w2 _ _ 0).trans rfl, (World.cell?_alloc_new w2 _ _ 1).trans rfl, (World.cell?_alloc_new w2 _ _ 2).trans rfl, (World.cell?_alloc_new w2 _ _ 3).trans rfl, (World.cell?_alloc_new w2 _ _ 4).trans rfl, (World.cell?_alloc_new w2 _ _ 5).trans rfl⟩, .inr (HRT.out _ (hbz _))⟩
   ·cases hy
    exact ⟨w2.heap.size, 0, _, _, rfl, ⟨(World.cell?_alloc_new w2 _ _ 6).trans rfl, (World.cell?_alloc_new w2 _ _ 7).trans rfl, (World.cell?_alloc_new w2 _ _ 8).trans rfl, (World.cell?_alloc_new w2 _ _ 9).trans rfl, (World.cell?_alloc_new w2 _ _ 10).trans rfl, (World.cell?_alloc_new w2 _ _ 11).trans rfl⟩, .inl ⟨rfl, rfl⟩⟩
   ·simp [plW] at hy
  ·rename_i h1
   rw [HNO.out (fun h => by have := h.2.1; omega)]
   go_ret2
   first | exact ⟨⟨_, _, rfl, rdk_nil _⟩, hb1.trans (hl2.mono hb1.size)⟩ | exact ⟨⟨_, ⟨_, rfl⟩, rdk_nil _⟩, hb1.trans (hl2.mono hb1.size)⟩
def AnW (lo : Nat) (w : World) (v : Value) (l : List ty.Wr) : Prop := ∃ g c, v = .slice (some ⟨g, 0, none⟩) l.length c ∧ ty.GWr lo w.heap.size w (some ⟨g, 0, none⟩) l
theorem AnW.mono {lo lo' : Nat} {w : World} {v : Value} {l : List ty.Wr} (h : AnW lo w v l) (hl : lo' ≤ lo) : AnW lo' w v l := by
 obtain ⟨g, c, e, h⟩ := h
 exact ⟨g, c, e, h.wide hl (Nat.le_refl _)⟩
theorem anw_nil (W : World) : AnW W.heap.size (W.alloc (.cells #[] 107)) (.slice (some ⟨W.heap.size, 0, none⟩) 0 0) [] := by
 have hr := World.rowIs_alloc W #[] 107 (fun _ => undef) (fun i hi => by simp at hi)
 exact ⟨_, 0, rfl, W.heap.size, 0, _, _, _, fun _ => 0, fun _ => 0, rfl, Nat.le_refl _, hr.lt, hr, by simp, fun i x hx => by simp at hx, fun i j _ hj => by simp at hj⟩
theorem ipla_any (lo lo2 : Nat) (x : ty.Wo) (p fr : ByteArray) (t : List ty.Et) (a0 a1 a2 a3 b2 : Option Addr) (c1 c2 c3 : Nat) (w : World) (H : SrcW (some lo) w x a0 a1 a2 a3) (hw : ty.wt1Wo x ≤ 1048576) (ht : ty.SrcEt (some lo2) w b2 t) (hwt : ty.wtEt t ≤ 1048576) (hpz : p.size ≤ 1048576) (hfz : fr.size ≤ 1048576) (hm : tt.ML w) (hT : wd.TabB w) :
  Calls Tryz.prog 23 #[.agg #[.slice a0 x.fStore.length x.fStore.length, .slice a1 x.fProfiles.length c1, .slice a2 x.fPending.length c2, .slice a3 x.fNexts.length c3], .string p, .slice b2 t.length t.length, .string fr] w fun e w' => (∃ v, e = .returned v ∧ AnW w.heap.size w' v (plaA x p fr t)) ∧ Below w.heap.size w w' := by
 have hws : ty.wtIt x.fStore ≤ 1048576 ∧ x.fPending.length ≤ 1048576 := by
  have := ty.wtPe_len x.fPending
  unfold ty.wt1Wo at hw
  omega
 have HWO : Hid (∀ W, Below w.heap.size w W → Calls Tryz.prog 9 #[.agg #[.slice a0 x.fStore.length x.fStore.length, .slice a1 x.fProfiles.length c1, .slice a2 x.fPending.length c2, .slice a3 x.fNexts.length c3]] W fun e w' => e = .returned (.bool (woB x)) ∧ Below W.heap.size W w') := fun W h => iwo_any lo x a0 a1 a2 a3 _ c1 c2 c3 W (H.st.below h) (H.pr.below h) (H.pe.below h) (H.nx.below h) hw (hm.below h) (hT.below h)
 have HAD : Hid (woB x = true → ∀ W, Below w.heap.size w W → Calls Tryz.prog 67 #[.agg #[.slice a0 x.fStore.length x.fStore.length, .slice a1 x.fProfiles.length c1, .slice a2 x.fPending.length c2, .slice a3 x.fNexts.length c3], .agg #[.string p, .slice b2 t.length t.length, .string fr]] W fun e w' => (∃ v c, e = .returned (.tuple #[v, .int .i64 c]) ∧ RdKV w' v (plaA x p fr t)) ∧ Below W.heap.size W w') := fun h W hB => by
  have hst : stB x.fStore = true := by unfold woB at h; simp only [Bool.and_eq_true] at h; exact h.1
  unfold plaA
  rw [if_pos h]
  exact adg_any lo lo2 x p fr t a0 a1 a2 a3 b2 _ c1 c2 _ c3 W (H.st.below hB) hws.1 hst (ht.below hB) hwt hpz hfz hws.2 (hm.below hB) (hT.below hB)
 have HCL : Hid (woB x = true → ∀ W v, RdKV W v (plaA x p fr t) → Calls Tryz.prog 68 #[v] W fun e w' => (∃ v', e = .returned v' ∧ AnW W.heap.size w' v' (plaA x p fr t)) ∧ Below W.heap.size W w') := fun h W v hv => by
  unfold plaA at hv ⊢
  rw [if_pos h] at hv ⊢
  obtain ⟨a, c, rfl, hk⟩ := hv
  refine (clonedW_bd a c _ W hk (by have := pla_len x p fr t; omega) (pla_bd hpz hfz hwt)).mono ?_
  rintro e w' ⟨⟨rfl, hg⟩, hl⟩
  exact ⟨⟨_, rfl, _, _, rfl, hg⟩, hl⟩
 have HNO : Hid (woB x = false → plaA x p fr t = []) := fun h => by unfold plaA; rw [if_neg (by rw [h]; decide)]
 clear H hw ht hwt hpz hfz hm hT hws
 generalize plaA x p fr t = RL at *
 generalize woB x = B at *
 generalize x.fStore.length = n0 at *
 generalize x.fProfiles.length = n1 at *
 generalize x.fPending.length = n2 at *
 generalize x.fNexts.length = n3 at *
 generalize t.length = nt at *
 obtain ⟨W0, hW0⟩ : ∃ W0, W0 = w.alloc (.cells #[.slice a0 n0 n0, .slice a1 n1 c1, .slice a2 n2 c2, .slice a3 n3 c3] 35) := ⟨_, rfl⟩
 have HW0 : Hid (W0 = w.alloc (.cells #[.slice a0 n0 n0, .slice a1 n1 c1, .slice a2 n2 c2, .slice a3 n3 c3] 35)) := hW0
 have HB0 : Hid (Below w.heap.size w W0) := by show Below _ _ _; rw [hW0]; exact (Below.refl _ _).alloc (Nat.le_refl _) _
 have HZ0 : Hid (W0.heap.size = w.heap.size + 1) := by show _ = _; rw [hW0]; simp
 have HBX : Hid (∀ W : World, Below W0.heap.size W0 W → W.cell? ⟨w.heap.size, 0, none⟩ = some (.slice a0 n0 n0) ∧ W.cell? ⟨w.heap.size, 1, none⟩ = some (.slice a1 n1 c1) ∧ W.cell? ⟨w.heap.size, 2, none⟩ = some (.slice a2 n2 c2) ∧ W.cell? ⟨w.heap.size, 3, none⟩ = some (.slice a3 n3 c3)) := fun W hW => by
  have k := fun j => hW.cell (p := ⟨w.heap.size, j, none⟩) (by show w.heap.size < _; rw [HZ0.out]; omega)
  rw [k 0, k 1, k 2, k 3, hW0]
  exact ⟨by simp [go_sem], by simp [go_sem], by simp [go_sem], by simp [go_sem]⟩
 have HWO0 := Lib.hid (HWO.out W0 HB0.out)
 rw [hW0] at HWO0
 clear hW0
 cases B with
 | false =>
  obtain rfl := HNO.out rfl
  go_enter Tryz.func23, Tryz.ntmps23
  go_wp2_with (first
   | (go_at_call 9; refine (HWO0.out).mono ?_; rintro e w1 ⟨rfl, hl1⟩; rw [← HW0.out] at hl1; have hb1 : Below w.heap.size w w1 := HB0.out.trans (hl1.mono HB0.out.size)))
  go_ret
  exact ⟨⟨_, rfl, (anw_nil w1).mono hb1.size⟩, hb1.alloc hb1.size _⟩
 | true =>
  have HA1 := Lib.hid (HAD.out rfl)
  have HC1 := Lib.hid (HCL.out rfl)
  go_enter Tryz.func23, Tryz.ntmps23
  go_wp2_with (first
   | (go_at_call 9; refine (HWO0.out).mono ?_; rintro e w1 ⟨rfl, hl1⟩; rw [← HW0.out] at hl1; have hb1 : Below w.heap.size w w1 := HB0.out.trans (hl1.mono HB0.out.size); obtain ⟨y0, y1, y2, y3⟩ := HBX.out w1 hl1)
   | (go_at_call 67; refine (HA1.out _ hb1).mono ?_; rintro e w2 ⟨⟨v2, c2', rfl, hv2⟩, hl2⟩; have hb2 : Below w.heap.size w w2 := hb1.trans (hl2.mono hb1.size))
   | (go_at_call 68; refine (HC1.out _ _ hv2).mono ?_; rintro e w3 ⟨⟨v3, rfl, hv3⟩, hl3⟩; have hb3 : Below w.heap.size w w3 := hb2.trans (hl3.mono hb2.size)))
  go_ret
  exact ⟨⟨_, rfl, hv3.mono hb2.size⟩, hb3⟩
def CpWr (w : World) (v : Value) (l : List ty.Wr) : Prop := ∃ g c, v = .slice (some ⟨g, 0, none⟩) l.length c ∧ ty.SrcWr none w (some ⟨g, 0, none⟩) l
theorem cpwr_nil (w : World) (g c : Nat) : CpWr w (.slice (some ⟨g, 0, none⟩) 0 c) [] := ⟨g, c, rfl, .inl ⟨rfl, rfl⟩⟩
def TrR (w : World) (g : Nat) (t : List ty.Et) : Prop := ∃ N f, w.rowIs g 96 N f ∧ t.length * 4 ≤ N ∧ ∀ (i : Nat) (y : ty.Et), t[i]? = some y → f (i * 4) = .string y.fPath ∧ f (i * 4 + 1) = .int .i64 y.fKind ∧ f (i * 4 + 2) = .string y.fData ∧ f (i * 4 + 3) = .bool y.fExec
theorem TrR.below {w w' : World} {g : Nat} {t : List ty.Et} (h : TrR w g t) (hb : Below w.heap.size w w') : TrR w' g t := by
 obtain ⟨N, f, h1, h2⟩ := h
 exact ⟨N, f, h1.of_block (hb.block _ h1.lt), h2⟩
theorem TrR.grown {w w' : World} {g base n : Nat} {t : List ty.Et} {v : Value} {xs : List Value} (h : TrR w g t) (ho : w.ownsRow base 107 6 v n xs) (hg : w.grownBy w' v.ownBlock) : TrR w' g t := by
 obtain ⟨N, f, h1, h2⟩ := h
 refine ⟨N, f, h1.of_block (hg.block _ h1.lt fun e => ?_), h2⟩
 rcases ho.2 with ⟨rfl, _⟩ | ⟨g', c, cur, rfl, _, h3, _⟩
 ·cases e
 ·have e : g' = g := (Option.some.inj e).symm
  subst e
  exact absurd (two_typesI (t' := 107) (N' := cur.size) (f' := fun i => cur[i]?.getD undef) h1 ⟨cur, h3, rfl, fun i hi => by have hq : cur[i]? = some (cur[i]'hi) := Array.getElem?_eq_getElem _; simp [hq]⟩) (by decide)
theorem TrR.src {w : World} {g : Nat} {t : List ty.Et} (h : TrR w g t) : ty.SrcEt none w (some ⟨g, 0, none⟩) t := by
 obtain ⟨N, f, h1, h2, h3⟩ := h
 refine .inr ⟨g, 0, rfl, ty.Okb.free _ _, fun i y hy => ?_⟩
 have hi := (List.getElem?_eq_some_iff.1 hy).1
 obtain ⟨q0, q1, q2, q3⟩ := h3 i y hy
 rw [Nat.zero_add]
 exact ⟨by rw [h1.cell (i := i * 4) (by omega), q0], by rw [h1.cell (i := i * 4 + 1) (by omega), q1], by rw [h1.cell (i := i * 4 + 2) (by omega), q2], by rw [h1.cell (i := i * 4 + 3) (by omega), q3]⟩
theorem app_wr_at (w : World) {ops : Array Oper} {rest : List Oper} {o : Oper} {a : Act} {Q : Exit → Act → World → Prop} (hgd : o.guard = none) (s x : Operand)
  (ho : o.op = .call { callee := .builtin .append, args := #[s, x], argTypes := #[52, 52] })
  (base : Nat) (v : Value) (zs : List Wz) (hs : a.eval s = v) (hown : w.ownsRow base 107 6 v zs.length (wrC zs)) (hnn : v ≠ .slice none 0 0)
  (ad : Addr) (c : Nat) (z : Wz) (hx : a.eval x = .slice (some ad) 1 c) (hnews : ∀ j u, (wzC z)[j]? = some u → w.cell? (ad.add j) = some u)
  (h63 : zs.length ≤ 400000000) (hbase : base ≤ w.heap.size)
  (h : ∀ v' w', w'.ownsRow base 107 6 v' (zs ++ [z]).length (wrC (zs ++ [z])) → v' ≠ .slice none 0 0 → w.grownBy w' v.ownBlock → wpList Tryz.prog ops Q rest (a.put o.dst v') w') : wpList Tryz.prog ops Q (o :: rest) a w := by
 obtain ⟨i, hi, hzz⟩ := Option.map_eq_some_iff.1 infoWr
 simp only [Prod.mk.injEq] at hzz
 obtain ⟨hz, hsi, hb⟩ := hzz
 refine wpList_append_own_at w hgd s x 52 ho base 107 i _ 6 88 Tryz.underlying52 hi hz hsi hb rfl (by decide) v zs.length (wrC zs) hs hown ad 1 c (wzC z) hx rfl hnews (wzC_one z) (by unfold maxLen; omega) (by omega) hbase (fun v' w' p q r r2 => h v' w' ?_ (fun e => hnn (r.1 e).1) q)
 rw [wrC_app, show wrC [z] = wzC z by rw [wrC, wrC, List.append_nil], List.length_append]
 exact p
theorem new_six (w : World) (z : Wz) (t : TypeId) : ∀ j u, (wzC z)[j]? = some u → (w.alloc (.cells #[.int .i64 z.x.fKind, .string z.x.fName, .string z.x.fPath, .slice z.a3 z.x.fTree.length z.c3, .string z.x.fFrom, .int .i64 z.x.fN] t)).cell? ((⟨w.heap.size, 0, none⟩ : Addr).add j) = some u := by
 intro j u hu
 have e : (⟨w.heap.size, 0, none⟩ : Addr).add j = ⟨w.heap.size, j, none⟩ := by simp [Addr.add]; omega
 rw [e]
 refine (World.cell?_alloc_new w _ _ j).trans ?_
 rw [List.getElem?_toArray]
 exact hu
theorem cp_two {w : World} {base g4 d4 : Nat} {v : Value} {p fr : ByteArray} {t : List ty.Et} (ho : w.ownsRow base 107 6 v 2 (wrC [⟨⟨1, ⟨#[]⟩, p, t, fr, 0⟩, some ⟨g4, 0, none⟩, d4, 0, 0⟩, ⟨⟨2, ⟨#[]⟩, p, [], ⟨#[]⟩, 0⟩, none, 0, 0, 0⟩])) (hn : v ≠ .slice none 0 0) (hT : TrR w g4 t) : CpWr w v (plW p fr t) := by
 rcases ho.2 with ⟨h1, _⟩ | ⟨g, c, cur, rfl, _⟩
 ·exact absurd h1 hn
 obtain ⟨_, _, _, k⟩ := own_cells' ho
 refine ⟨g, c, rfl, .inr ⟨g, 0, rfl, ty.Okb.free _ _, fun i y hy => ?_⟩⟩
 rcases i with _ | _ | i
 ·cases hy
  exact ⟨some ⟨g4, 0, none⟩, d4, k 0 _ rfl, k 1 _ rfl, k 2 _ rfl, k 3 _ rfl, k 4 _ rfl, k 5 _ rfl, hT.src, fun lo e => by cases e⟩
 ·cases hy
  exact ⟨none, 0, k 6 _ rfl, k 7 _ rfl, k 8 _ rfl, k 9 _ rfl, k 10 _ rfl, k 11 _ rfl, .inl ⟨rfl, rfl⟩, fun lo e => by cases e⟩
 ·simp [plW] at hy
theorem l19pa_any (lo lo2 : Nat) (x : ty.Wo) (p fr : ByteArray) (t : List ty.Et) (a0 a1 a2 a3 b2 : Option Addr) (c0 n1 c1 c2 n3 c3 : Nat) (w : World) (h0 : ty.SrcIt (some lo) w a0 x.fStore) (hw : ty.wtIt x.fStore ≤ 1048576) (hst : stB x.fStore = true) (ht : ty.SrcEt (some lo2) w b2 t) (hwt : ty.wtEt t ≤ 1048576) (hp : wd.aokB p = true) (hpz : p.size ≤ 1048576) (hpn : x.fPending.length ≤ 1048576) :
  Calls Tryz.prog 66 #[.agg #[.slice a0 x.fStore.length c0, .slice a1 n1 c1, .slice a2 x.fPending.length c2, .slice a3 n3 c3], .string p, .slice b2 t.length t.length, .string fr] w fun e w' => (∃ v, e = .returned v ∧ CpWr w' v (if addC x.fStore p t < 2 ∧ x.fPending.length ≠ 20 then plW p fr t else [])) ∧ Below w.heap.size w w' := by
 have htl : t.length ≤ 1048576 := by have := ty.wtEt_len t; omega
 have HAD : Hid (∀ W, Below w.heap.size w W → Calls Tryz.prog 51 #[.slice a0 x.fStore.length c0, .string p, .slice b2 t.length t.length, .string fr] W fun e w' => (∃ v, e = .returned (.tuple #[v, .int .i64 (addC x.fStore p t)])) ∧ Below W.heap.size W w') := fun W h => by
  refine (l12a_any lo lo2 a0 b2 c0 x.fStore p fr t W (h0.below h) hw (ht.below h) hwt hst hp hpz).mono ?_
  rintro e w' ⟨⟨v, rfl, _⟩, hl⟩
  exact ⟨⟨v, rfl⟩, hl⟩
 have HCP : Hid (∀ W, Below w.heap.size w W → Calls Tryz.prog 124 #[.slice b2 t.length t.length] W fun e w' => (∃ g d, e = .returned (.slice (some ⟨g, 0, none⟩) t.length d) ∧ TrR w' g t) ∧ Below W.heap.size W w') := fun W h => by
  obtain ⟨b, o, rfl, hc⟩ := (RdE.of ht).below h
  refine (tt.copy_any (enT t) b o t.length t.length W (src_enr hc) (by omega)).mono ?_
  rintro e w' ⟨⟨v, rfl, ho, hv⟩, hl⟩
  obtain ⟨g, d, rfl, hg⟩ := oy4 ho hv
  exact ⟨⟨g, d, rfl, hg⟩, hl⟩
 obtain ⟨R, hR⟩ : ∃ R, (if addC x.fStore p t < 2 ∧ x.fPending.length ≠ 20 then plW p fr t else []) = R := ⟨_, rfl⟩
 have HNO : Hid (¬ (addC x.fStore p t < 2 ∧ x.fPending.length ≠ 20) → R = []) := fun h => by rw [← hR, if_neg h]
 have HYE : Hid (addC x.fStore p t < 2 ∧ x.fPending.length ≠ 20 → R = plW p fr t) := fun h => by rw [← hR, if_pos h]
 rw [hR]
 have HC2 : Hid (∀ (W : World) (base g4 d4 : Nat) (v : Value), W.ownsRow base 107 6 v 2 (wrC [⟨⟨1, ⟨#[]⟩, p, t, fr, 0⟩, some ⟨g4, 0, none⟩, d4, 0, 0⟩, ⟨⟨2, ⟨#[]⟩, p, [], ⟨#[]⟩, 0⟩, none, 0, 0, 0⟩]) → v ≠ .slice none 0 0 → TrR W g4 t → CpWr W v (plW p fr t)) := fun W base g4 d4 v h1 h2 h3 => cp_two h1 h2 h3
 have HN1 : Hid (∀ (W : World) (g4 d4 : Nat) j u, (wzC ⟨⟨1, ⟨#[]⟩, p, t, fr, 0⟩, some ⟨g4, 0, none⟩, d4, 0, 0⟩)[j]? = some u → (W.alloc (.cells #[.int .i64 1, .string ⟨#[]⟩, .string p, .slice (some ⟨g4, 0, none⟩) t.length d4, .string fr, .int .i64 0] 107)).cell? ((⟨W.heap.size, 0, none⟩ : Addr).add j) = some u) := fun W g4 d4 => new_six W ⟨⟨1, ⟨#[]⟩, p, t, fr, 0⟩, some ⟨g4, 0, none⟩, d4, 0, 0⟩ _
 have HN2 : Hid (∀ (W : World) j u, (wzC ⟨⟨2, ⟨#[]⟩, p, [], ⟨#[]⟩, 0⟩, none, 0, 0, 0⟩)[j]? = some u → (W.alloc (.cells #[.int .i64 2, .string ⟨#[]⟩, .string p, .slice none 0 0, .string ⟨#[]⟩, .int .i64 0] 107)).cell? ((⟨W.heap.size, 0, none⟩ : Addr).add j) = some u) := fun W => new_six W ⟨⟨2, ⟨#[]⟩, p, [], ⟨#[]⟩, 0⟩, none, 0, 0, 0⟩ _
 clear h0 hw hst ht hwt hp hpz htl hR
 generalize addC x.fStore p t = C at *
 generalize x.fStore.length = n0 at *
 generalize x.fPending.length = n2 at *
 obtain ⟨W0, hW0⟩ : ∃ W0, W0 = (w.alloc (.cells #[.slice a0 n0 c0, .slice a1 n1 c1, .slice a2 n2 c2, .slice a3 n3 c3] 35)).alloc (.cells #[] 107) := ⟨_, rfl⟩
 have HW0 : Hid (W0 = (w.alloc (.cells #[.slice a0 n0 c0, .slice a1 n1 c1, .slice a2 n2 c2, .slice a3 n3 c3] 35)).alloc (.cells #[] 107)) := hW0
 have HB0 : Hid (Below w.heap.size w W0) := by show Below _ _ _; rw [hW0]; exact ((Below.refl _ _).alloc (Nat.le_refl _) _).alloc (by simp) _
 have HZ0 : Hid (W0.heap.size = w.heap.size + 2) := by show _ = _; rw [hW0]; simp
 have HBX : Hid (∀ W : World, Below W0.heap.size W0 W → W.cell? ⟨w.heap.size, 0, none⟩ = some (.slice a0 n0 c0) ∧ W.cell? ⟨w.heap.size, 2, none⟩ = some (.slice a2 n2 c2)) := fun W hW => by
  have k := fun j => hW.cell (p := ⟨w.heap.size, j, none⟩) (by show w.heap.size < _; rw [HZ0.out]; omega)
  rw [k 0, k 2, hW0]
  exact ⟨by simp [go_sem], by simp [go_sem]⟩
 have HOW : Hid (∀ W : World, Below W0.heap.size W0 W → W.ownsRow w.heap.size 107 6 (.slice (some ⟨w.heap.size + 1, 0, none⟩) 0 0) ([] : List Wz).length (wrC [])) := fun W hW => by
  have h := made_ownW (w.alloc (.cells #[.slice a0 n0 c0, .slice a1 n1 c1, .slice a2 n2 c2, .slice a3 n3 c3] 35)) 0 (Nat.zero_le _) #[] rfl 107
  rw [← hW0, show (w.alloc (.cells #[.slice a0 n0 c0, .slice a1 n1 c1, .slice a2 n2 c2, .slice a3 n3 c3] 35)).heap.size = w.heap.size + 1 by simp] at h
  have h2 : W0.ownsRow w.heap.size 107 6 (.slice (some ⟨w.heap.size + 1, 0, none⟩) 0 0) 0 [] := ⟨h.1, h.2.imp id fun ⟨g, c, cur, e, hb, r⟩ => ⟨g, c, cur, e, by omega, r⟩⟩
  exact own_belowI h2 hW
 have HAD0 := Lib.hid (HAD.out W0 HB0.out)
 have HC0 := Lib.hid (HBX.out W0 (Below.refl _ _))
 rw [hW0] at HAD0 HC0
 clear hW0
 obtain ⟨i0, i2⟩ := HC0.out
 go_enter Tryz.func66, Tryz.ntmps66
 by_cases hC : C < 2
 ·have hC' : ¬ (1 : Int) < C := by omega
  by_cases hn : n2 = 20
  ·subst hn
   obtain rfl := HNO.out (fun h => h.2 rfl)
   go_wp2_with (go_at_call 51; refine (HAD0.out).mono ?_; rintro e w1 ⟨⟨v1, rfl⟩, hl1⟩; rw [← HW0.out] at hl1; have hb1 : Below w.heap.size w w1 := HB0.out.trans (hl1.mono HB0.out.size); obtain ⟨x0, x2⟩ := HBX.out w1 hl1)
   go_ret
   exact ⟨⟨_, rfl, cpwr_nil _ _ _⟩, hb1⟩
  ·have hn' : ((n2 : Int) == 20) = false := by rw [beq_eq_false_iff_ne]; omega
   obtain rfl := HYE.out ⟨hC, hn⟩
   go_wp2_with (first
    | (go_at_call 51; refine (HAD0.out).mono ?_; rintro e w1 ⟨⟨v1, rfl⟩, hl1⟩; rw [← HW0.out] at hl1; have hb1 : Below w.heap.size w w1 := HB0.out.trans (hl1.mono HB0.out.size); obtain ⟨x0, x2⟩ := HBX.out w1 hl1)
    | (go_at_call 124; refine (HCP.out _ hb1).mono ?_; rintro e w2 ⟨⟨g4, d4, rfl, hT2⟩, hl2⟩; have hb2 : Below w.heap.size w w2 := hb1.trans (hl2.mono hb1.size); have ho2 := HOW.out w2 (hl1.trans (hl2.mono hl1.size)); refine Hid.out ?_))
   refine Lib.hid ?_
   have HA2 : Hid (Below w2.heap.size w2 (w2.alloc (.cells #[.int .i64 1, .string ⟨#[]⟩, .string p, .slice (some ⟨g4, 0, none⟩) t.length d4, .string fr, .int .i64 0] 107))) := (Below.refl _ _).alloc (Nat.le_refl _) _
   have HO2 := Lib.hid (own_belowI ho2 HA2.out)
   have HT2 := Lib.hid (hT2.below HA2.out)
   have HB2 := Lib.hid (hb2.trans (HA2.out.mono hb2.size))
   clear ho2 hT2 hl1 hl2 x0 x2
   go_wp2_with (at_builtin; refine app_wr_at _ rfl _ _ rfl w.heap.size (.slice (some ⟨w.heap.size + 1, 0, none⟩) 0 0) [] rfl HO2.out (fun e => by cases e) ⟨w2.heap.size, 0, none⟩ _ ⟨⟨1, ⟨#[]⟩, p, t, fr, 0⟩, some ⟨g4, 0, none⟩, d4, 0, 0⟩ rfl (HN1.out w2 g4 d4) (by simp) (by have := HB2.out.size; omega) ?_; intro v3 w3 ho3 hv3 hg3; refine Hid.out ?_)
   refine Lib.hid ?_
   have HT3 := Lib.hid (HT2.out.grown HO2.out hg3)
   have HB3 := Lib.hid (below_grownS HB2.out HO2.out hg3 HB2.out.size)
   have HA3 : Hid (Below w3.heap.size w3 (w3.alloc (.cells #[.int .i64 2, .string ⟨#[]⟩, .string p, .slice none 0 0, .string ⟨#[]⟩, .int .i64 0] 107))) := (Below.refl _ _).alloc (Nat.le_refl _) _
   have HO3 := Lib.hid (own_belowI ho3 HA3.out)
   have HT4 := Lib.hid (HT3.out.below HA3.out)
   have HB4 := Lib.hid (HB3.out.trans (HA3.out.mono HB3.out.size))
   clear ho3 hg3
   go_wp2_with (at_builtin; refine app_wr_at _ rfl _ _ rfl w.heap.size _ [⟨⟨1, ⟨#[]⟩, p, t, fr, 0⟩, some ⟨g4, 0, none⟩, d4, 0, 0⟩] rfl HO3.out hv3 ⟨w3.heap.size, 0, none⟩ _ ⟨⟨2, ⟨#[]⟩, p, [], ⟨#[]⟩, 0⟩, none, 0, 0, 0⟩ rfl (HN2.out w3) (by simp) (by have := HB4.out.size; omega) ?_; intro v5 w5 ho5 hv5 hg5; refine Hid.out ?_)
   refine Lib.hid ?_
   have HT5 := HT4.out.grown HO3.out hg5
   have HB5 := below_grownS HB4.out HO3.out hg5 HB4.out.size
   have HV5 := HC2.out w5 _ g4 d4 v5 ho5 hv5 HT5
   clear ho5 hv5 hg5
   go_wp2
   go_ret
   exact ⟨⟨_, rfl, HV5⟩, HB5⟩
 ·have hC' : (1 : Int) < C := by omega
  obtain rfl := HNO.out (fun h => hC h.1)
  go_wp2_with (go_at_call 51; refine (HAD0.out).mono ?_; rintro e w1 ⟨⟨v1, rfl⟩, hl1⟩; rw [← HW0.out] at hl1; have hb1 : Below w.heap.size w w1 := HB0.out.trans (hl1.mono HB0.out.size); obtain ⟨x0, x2⟩ := HBX.out w1 hl1)
  go_ret
  exact ⟨⟨_, rfl, cpwr_nil _ _ _⟩, hb1⟩
theorem spla_any (lo lo2 : Nat) (x : ty.Wo) (p fr : ByteArray) (t : List ty.Et) (a0 a1 a2 a3 b2 : Option Addr) (c0 c1 c2 c3 : Nat) (w : World) (H : SrcW (some lo) w x a0 a1 a2 a3) (hw : ty.wt1Wo x ≤ 1048576) (ht : ty.SrcEt (some lo2) w b2 t) (hwt : ty.wtEt t ≤ 1048576) (hpz : p.size ≤ 1048576) (hfz : fr.size ≤ 1048576) :
  Calls Tryz.prog 22 #[.agg #[.slice a0 x.fStore.length c0, .slice a1 x.fProfiles.length c1, .slice a2 x.fPending.length c2, .slice a3 x.fNexts.length c3], .string p, .slice b2 t.length t.length, .string fr] w fun e w' => (∃ v, e = .returned v ∧ CpWr w' v (plaA x p fr t)) ∧ Below w.heap.size w w' := by
 have hws : ty.wtIt x.fStore ≤ 1048576 ∧ x.fPending.length ≤ 1048576 := by
  have := ty.wtPe_len x.fPending
  unfold ty.wt1Wo at hw
  omega
 have htl : t.length ≤ 1048576 := by have := ty.wtEt_len t; omega
 obtain ⟨tb, to_, rfl, htc⟩ : ∃ tb to_, b2 = some ⟨tb, to_, none⟩ ∧ ∀ (i : Nat) (x : ty.Et), t[i]? = some x → ty.CEt (some lo2) w tb (to_ + i * 4) x := by
  rcases ht with h | ⟨b, o, e, _, hc⟩
  ·cases h.1
  ·exact ⟨b, o, e, hc⟩
 have hR : tt.EnR w tb to_ t.length (enT t) := src_enr htc
 have HWO : Hid (∀ W, Below w.heap.size w W → Calls Tryz.prog 7 #[.agg #[.slice a0 x.fStore.length c0, .slice a1 x.fProfiles.length c1, .slice a2 x.fPending.length c2, .slice a3 x.fNexts.length c3]] W fun e w' => e = .returned (.bool (woB x)) ∧ Below W.heap.size W w') := fun W h => swo_any lo x a0 a1 a2 a3 c0 c1 c2 c3 W (H.st.below h) (H.pr.below h) (H.pe.below h) (H.nx.below h) hw
 have HIT : Hid (∀ W, Below w.heap.size w W → Calls Tryz.prog 33 #[.string p, .slice (some ⟨tb, to_, none⟩) t.length t.length, .string fr] W fun e w' => e = .returned (.bool (okP p fr t)) ∧ Below W.heap.size W w') := fun W h => l19i_any p fr (some ⟨tb, to_, none⟩) t.length t.length (tt.treeB (enT t) t.length) hpz hfz W (tt.stree_any (enT t) tb to_ t.length t.length W (hR.below h) (small_enr hwt) htl (Nat.le_refl _) (by unfold maxLen; omega))
 have HPL : Hid (woB x = true → okP p fr t = true → ∀ W, Below w.heap.size w W → Calls Tryz.prog 66 #[.agg #[.slice a0 x.fStore.length c0, .slice a1 x.fProfiles.length c1, .slice a2 x.fPending.length c2, .slice a3 x.fNexts.length c3], .string p, .slice (some ⟨tb, to_, none⟩) t.length t.length, .string fr] W fun e w' => (∃ v, e = .returned v ∧ CpWr w' v (plaA x p fr t)) ∧ Below W.heap.size W w') := fun h hk W hB => by
  have hst : stB x.fStore = true := by unfold woB at h; simp only [Bool.and_eq_true] at h; exact h.1
  have hp : wd.aokB p = true := by unfold okP at hk; simp only [Bool.and_eq_true] at hk; exact hk.1
  have e : plaA x p fr t = if addC x.fStore p t < 2 ∧ x.fPending.length ≠ 20 then plW p fr t else [] := by
   unfold plaA adgL
   rw [if_pos h, hk]
   simp only [true_and]
  rw [e]
  exact l19pa_any lo lo2 x p fr t a0 a1 a2 a3 _ c0 _ c1 c2 _ c3 W (H.st.below hB) hws.1 hst (ht.below hB) hwt hp hpz hws.2
 have HNO : Hid (woB x = false ∨ okP p fr t = false → plaA x p fr t = []) := fun h => by
  unfold plaA adgL
  rcases h with h | h
  ·rw [if_neg (by rw [h]; decide)]
  ·rw [h]
   simp
 clear H hw ht hwt hpz hfz hws htl htc hR
 generalize plaA x p fr t = RL at *
 generalize woB x = B at *
 generalize okP p fr t = O at *
 generalize x.fStore.length = n0 at *
 generalize x.fProfiles.length = n1 at *
 generalize x.fPending.length = n2 at *
 generalize x.fNexts.length = n3 at *
 generalize t.length = nt at *
 obtain ⟨W0, hW0⟩ : ∃ W0, W0 = w.alloc (.cells #[.slice a0 n0 c0, .slice a1 n1 c1, .slice a2 n2 c2, .slice a3 n3 c3] 35) := ⟨_, rfl⟩
 have HW0 : Hid (W0 = w.alloc (.cells #[.slice a0 n0 c0, .slice a1 n1 c1, .slice a2 n2 c2, .slice a3 n3 c3] 35)) := hW0
 have HB0 : Hid (Below w.heap.size w W0) := by show Below _ _ _; rw [hW0]; exact (Below.refl _ _).alloc (Nat.le_refl _) _
 have HZ0 : Hid (W0.heap.size = w.heap.size + 1) := by show _ = _; rw [hW0]; simp
 have HBX : Hid (∀ W : World, Below W0.heap.size W0 W → W.cell? ⟨w.heap.size, 0, none⟩ = some (.slice a0 n0 c0) ∧ W.cell? ⟨w.heap.size, 1, none⟩ = some (.slice a1 n1 c1) ∧ W.cell? ⟨w.heap.size, 2, none⟩ = some (.slice a2 n2 c2) ∧ W.cell? ⟨w.heap.size, 3, none⟩ = some (.slice a3 n3 c3)) := fun W hW => by
  have k := fun j => hW.cell (p := ⟨w.heap.size, j, none⟩) (by show w.heap.size < _; rw [HZ0.out]; omega)
  rw [k 0, k 1, k 2, k 3, hW0]
  exact ⟨by simp [go_sem], by simp [go_sem], by simp [go_sem], by simp [go_sem]⟩
 have HWO0 := Lib.hid (HWO.out W0 HB0.out)
 rw [hW0] at HWO0
 clear hW0
 cases B with
 | false =>
  obtain rfl := HNO.out (.inl rfl)
  go_enter Tryz.func22, Tryz.ntmps22
  go_wp2_with (first
   | (go_at_call 7; refine (HWO0.out).mono ?_; rintro e w1 ⟨rfl, hl1⟩; rw [← HW0.out] at hl1; have hb1 : Below w.heap.size w w1 := HB0.out.trans (hl1.mono HB0.out.size)))
  go_ret
  exact ⟨⟨_, rfl, cpwr_nil _ _ _⟩, hb1.alloc hb1.size _⟩
 | true =>
  cases O with
  | false =>
   obtain rfl := HNO.out (.inr rfl)
   go_enter Tryz.func22, Tryz.ntmps22
   go_wp2_with (first
    | (go_at_call 7; refine (HWO0.out).mono ?_; rintro e w1 ⟨rfl, hl1⟩; rw [← HW0.out] at hl1; have hb1 : Below w.heap.size w w1 := HB0.out.trans (hl1.mono HB0.out.size))
    | (go_at_call 33; refine (HIT.out _ hb1).mono ?_; rintro e w2 ⟨rfl, hl2⟩; have hb2 : Below w.heap.size w w2 := hb1.trans (hl2.mono hb1.size)))
   go_ret
   exact ⟨⟨_, rfl, cpwr_nil _ _ _⟩, hb2.alloc hb2.size _⟩
  | true =>
   have HP1 := Lib.hid (HPL.out rfl rfl)
   go_enter Tryz.func22, Tryz.ntmps22
   go_wp2_with (first
    | (go_at_call 7; refine (HWO0.out).mono ?_; rintro e w1 ⟨rfl, hl1⟩; rw [← HW0.out] at hl1; have hb1 : Below w.heap.size w w1 := HB0.out.trans (hl1.mono HB0.out.size))
    | (go_at_call 33; refine (HIT.out _ hb1).mono ?_; rintro e w2 ⟨rfl, hl2⟩; have hd2 : Below W0.heap.size W0 w2 := hl1.trans (hl2.mono hl1.size); have hb2 : Below w.heap.size w w2 := hb1.trans (hl2.mono hb1.size); obtain ⟨y0, y1, y2, y3⟩ := HBX.out w2 hd2)
    | (go_at_call 66; refine (HP1.out _ hb2).mono ?_; rintro e w3 ⟨⟨v3, rfl, hv3⟩, hl3⟩; have hb3 : Below w.heap.size w w3 := hb2.trans (hl3.mono hb2.size)))
   go_ret
   exact ⟨⟨_, rfl, hv3⟩, hb3⟩
def BigW (l : List ty.Wr) : Prop := (l.length ≤ 1048576 ∧ ∀ x ∈ l, ty.wtEt x.fTree ≤ 1048576) ∧ ty.wtWr l ≤ 4194400
theorem bigW_nil : BigW [] := ⟨⟨Nat.zero_le _, fun x hx => by cases hx⟩, by simp [ty.wtWr, ty.wtkWr]⟩
theorem pla_big {x : ty.Wo} {p fr : ByteArray} {t : List ty.Et} (hp : p.size ≤ 1048576) (hf : fr.size ≤ 1048576) (ht : ty.wtEt t ≤ 1048576) : BigW (plaA x p fr t) := by
 unfold plaA
 split
 ·refine ⟨⟨by have := pla_len x p fr t; omega, fun y hy => (pla_bd hp hf ht y hy).2.2.2⟩, ?_⟩
  unfold adgL
  split
  ·have h0 : ty.wtEt [] = 0 := by simp [ty.wtEt, ty.wtkEt]
   have h1 : (⟨#[]⟩ : ByteArray).size = 0 := rfl
   simp only [ty.wtWr, ty.wtkWr, plW, List.length_cons, List.length_nil, List.take_succ_cons, List.take_zero, List.map_cons, List.map_nil, List.sum_cons, List.sum_nil, ty.wt1Wr, h0, h1]
   omega
  ·exact bigW_nil.2
 ·exact bigW_nil
end Go.Proofs.YtpfnnjfapcnbnaaGreatDoor.so
