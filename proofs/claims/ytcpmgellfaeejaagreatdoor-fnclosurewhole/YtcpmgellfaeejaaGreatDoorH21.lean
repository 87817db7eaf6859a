import Derived.Test.YtcpmgellfaeejaaGreatDoorH20
namespace Go.Proofs.YtcpmgellfaeejaaGreatDoor.so
open Go.ChangeShapes Go.WideShapes Go.ChangeAt Go.RowKit Go.Deep Go.Shelf Go.Maps
set_option linter.unusedVariables false
set_option linter.unusedSimpArgs false
noncomputable def insP (ps : List ty.It) (x : ty.It) (K i : Nat) : List ty.It := if i ≤ K then ps.take i else ps.take K ++ x :: (ps.drop K).take (i - K)
theorem insP_le {ps : List ty.It} {x : ty.It} {K i : Nat} (h : i ≤ K) : insP ps x K i = ps.take i := by unfold insP; rw [if_pos h]
theorem insP_step {ps : List ty.It} {x y : ty.It} {K i : Nat} (h : i < K) (hy : ps[i]? = some y) : insP ps x K (i + 1) = insP ps x K i ++ [y] := by
 rw [insP_le (by omega), insP_le (by omega), List.take_add_one, hy]; rfl
theorem insP_at {ps : List ty.It} {x y : ty.It} {K : Nat} (hy : ps[K]? = some y) : insP ps x K (K + 1) = insP ps x K K ++ [x] ++ [y] := by
 rw [insP_le (Nat.le_refl K)]
 unfold insP
 rw [if_neg (by omega), show K + 1 - K = 0 + 1 by omega, List.take_add_one, List.take_zero, List.getElem?_drop, Nat.add_zero, hy]
 simp
theorem insP_more {ps : List ty.It} {x y : ty.It} {K i : Nat} (h : K < i) (hy : ps[i]? = some y) : insP ps x K (i + 1) = insP ps x K i ++ [y] := by
 unfold insP
 rw [if_neg (by omega), if_neg (by omega), show i + 1 - K = (i - K) + 1 by omega, List.take_add_one, List.getElem?_drop, show K + (i - K) = i by omega, hy]
 simp
theorem insP_end {ps : List ty.It} {x : ty.It} {K : Nat} (h : K < ps.length) : insP ps x K ps.length = ps.take K ++ x :: ps.drop K := by
 unfold insP
 rw [if_neg (by omega)]
 have e : (ps.drop K).take (ps.length - K) = ps.drop K := List.take_of_length_le (by rw [List.length_drop]; omega)
 rw [e]
theorem insP_last {ps : List ty.It} {x : ty.It} {K : Nat} (h : ps.length ≤ K) : insP ps x K ps.length ++ [x] = ps.take K ++ x :: ps.drop K := by
 rw [insP_le h, List.take_length, List.take_of_length_le h, List.drop_eq_nil_of_le h]
theorem add_had {ps : List ty.It} (ha : AscI ps) {p fr : ByteArray} {t : List ty.Et} {i : Nat} {x : ty.It} (hx : ps[i]? = some x) (e : x.fPath.data.toList = p.data.toList) : (addC ps p t = if x.fSum = tt.tsB (enT t) t.length then 1 else 2) ∧ addL ps p fr t = ps := by
 have h1 : addC ps p t = if x.fSum = tt.tsB (enT t) t.length then 1 else 2 := by unfold addC; rw [if_pos (has_fd hx e), had_eq ha hx e]
 refine ⟨h1, ?_⟩
 unfold addL
 rw [if_neg (by rw [h1]; split <;> decide)]
theorem add_aw {ps : List ty.It} {p fr : ByteArray} {t : List ty.Et} (hno : ∀ (j : Nat) (z : ty.It), ps[j]? = some z → z.fPath.data.toList ≠ p.data.toList) {i : Nat} {x : ty.It} (hx : ps[i]? = some x) (h : rf.inB (enT x.fTree) x.fTree.length (p.data.toList.take 13) = true) : addC ps p t = 3 ∧ addL ps p fr t = ps := by
 have h1 : addC ps p t = 3 := by unfold addC; rw [if_neg (by rw [has_no hno]; decide), if_pos (show awB ps p = true from List.any_eq_true.2 ⟨x, List.mem_of_getElem? hx, h⟩)]
 refine ⟨h1, ?_⟩
 unfold addL
 rw [if_neg (by rw [h1]; decide)]
theorem aw_no {ps : List ty.It} {p : ByteArray} (h : ∀ (j : Nat) (z : ty.It), ps[j]? = some z → rf.inB (enT z.fTree) z.fTree.length (p.data.toList.take 13) = false) : awB ps p = false := by
 unfold awB
 rw [List.any_eq_false]
 intro y hy
 obtain ⟨j, hj⟩ := List.getElem?_of_mem hy
 rw [h j y hj]
 decide
theorem add_full {ps : List ty.It} {p fr : ByteArray} {t : List ty.Et} (hno : ∀ (j : Nat) (z : ty.It), ps[j]? = some z → z.fPath.data.toList ≠ p.data.toList) (haw : awB ps p = false) (hn : ps.length = 300) : addC ps p t = 4 ∧ addL ps p fr t = ps := by
 have h1 : addC ps p t = 4 := by unfold addC; rw [if_neg (by rw [has_no hno]; decide), if_neg (by rw [haw]; decide), if_pos hn]
 refine ⟨h1, ?_⟩
 unfold addL
 rw [if_neg (by rw [h1]; decide)]
theorem add_yes {ps : List ty.It} {p fr : ByteArray} {t : List ty.Et} (hno : ∀ (j : Nat) (z : ty.It), ps[j]? = some z → z.fPath.data.toList ≠ p.data.toList) (haw : awB ps p = false) (hn : ps.length ≠ 300) : addC ps p t = 0 ∧ addL ps p fr t = insL ps (newI ps p fr t) := by
 have h1 : addC ps p t = 0 := by unfold addC; rw [if_neg (by rw [has_no hno]; decide), if_neg (by rw [haw]; decide), if_neg hn]
 refine ⟨h1, ?_⟩
 unfold addL
 rw [if_pos h1]
structure OtR (w W7 : World) (g0 : Nat) (wr : World) (v : Value) (zs : List Iz) : Prop where
 row : RwI w.heap.size wr v zs
 blk : ∃ g, v.ownBlock = some g ∧ (g = g0 ∨ W7.heap.size ≤ g)
 kp : KpB W7 g0 wr
 be : Below w.heap.size w wr
theorem OtR.below {w W7 wr wr' : World} {g0 : Nat} {v : Value} {zs : List Iz} (h : OtR w W7 g0 wr v zs) (hb : Below wr.heap.size wr wr') : OtR w W7 g0 wr' v zs := ⟨h.row.below hb, h.blk, h.kp.below hb, h.be.trans (hb.mono h.be.size)⟩
theorem OtR.app {w W7 wr wr' : World} {g0 : Nat} {v v' : Value} {zs zs' : List Iz} (h : OtR w W7 g0 wr v zs) (hr : RwI w.heap.size wr' v' zs') (hg : wr.grownBy wr' v.ownBlock) (hb : v'.ownBlock = v.ownBlock ∨ v'.ownBlock = some wr.heap.size) : OtR w W7 g0 wr' v' zs' := by
 obtain ⟨g, e, hgg⟩ := h.blk
 have be' : Below w.heap.size w wr' := below_grownS h.be h.row.own hg h.be.size
 rw [e] at hg hb
 refine ⟨hr, ?_, h.kp.grown hg hgg, be'⟩
 rcases hb with hb | hb
 ·exact ⟨g, hb, hgg⟩
 ·exact ⟨_, hb, .inr h.kp.sz⟩
theorem strL_of (p : ByteArray) : sr.strL p.data.toList = .string p := by unfold sr.strL; rw [Array.toArray_toList]
theorem empty_cells {w : World} {g t : Nat} (h : w.heap[g]? = some (.cells #[] t (0, 0))) (j : Nat) : w.cell? ⟨g, j, none⟩ = none := by simp [World.cell?, h]
def RdZc (w : World) (z : Iz) : Prop := RdT w z.a2 z.x.fRefs ∧ RdE w z.a4 z.x.fTree ∧ z.x.fTree.length ≤ z.c4 ∧ z.c4 ≤ maxLen
theorem RdZc.below {w w' : World} {z : Iz} (h : RdZc w z) (hb : Below w.heap.size w w') : RdZc w' z := ⟨h.1.below hb, h.2.1.below hb, h.2.2⟩
def RdC (w : World) (a : Option Addr) (l : List ty.It) : Prop := ∀ (i : Nat) (x : ty.It), l[i]? = some x → ∃ b o a2 c2 a4 c4, a = some ⟨b, o, none⟩ ∧ (w.cell? ⟨b, o + i * 5, none⟩ = some (.string x.fPath) ∧ w.cell? ⟨b, o + i * 5 + 1, none⟩ = some (.string x.fSum) ∧ w.cell? ⟨b, o + i * 5 + 2, none⟩ = some (.slice a2 x.fRefs.length c2) ∧ w.cell? ⟨b, o + i * 5 + 3, none⟩ = some (.string x.fFrom) ∧ w.cell? ⟨b, o + i * 5 + 4, none⟩ = some (.slice a4 x.fTree.length c4)) ∧ RdT w a2 x.fRefs ∧ RdE w a4 x.fTree ∧ x.fTree.length ≤ c4 ∧ c4 ≤ maxLen
theorem RdC.below {w w' : World} {a : Option Addr} {l : List ty.It} (h : RdC w a l) (hb : Below w.heap.size w w') : RdC w' a l := fun i x hx => by
 obtain ⟨b, o, a2, c2, a4, c4, rfl, ⟨q0, q1, q2, q3, q4⟩, s2, s4, k⟩ := h i x hx
 have K : ∀ {r v}, w.cell? ⟨b, r, none⟩ = some v → w'.cell? ⟨b, r, none⟩ = some v := fun {r v} h' => (hb.cell (p := ⟨b, r, none⟩) (World.block_lt_of_cell? _ _ h')).trans h'
 exact ⟨b, o, a2, c2, a4, c4, rfl, ⟨K q0, K q1, K q2, K q3, K q4⟩, s2.below hb, s4.below hb, k⟩
theorem RdC.src {w : World} {a : Option Addr} {l : List ty.It} (h : RdC w a l) : ty.SrcIt none w a l := by
 cases l with
 | nil => exact .inl ⟨rfl, rfl⟩
 | cons y l =>
  obtain ⟨b, o, _, _, _, _, rfl, _⟩ := h 0 y rfl
  refine .inr ⟨b, o, rfl, ty.Okb.free _ _, fun i x hx => ?_⟩
  obtain ⟨b', o', a2, c2, a4, c4, e, ⟨q0, q1, q2, q3, q4⟩, ⟨b2, o2, e2, s2⟩, ⟨b4, o4, e4, s4⟩, _⟩ := h i x hx
  cases e
  exact ⟨a2, c2, a4, c4, q0, q1, q2, q3, q4, .inr ⟨b2, o2, e2, ty.Okb.free _ _, s2⟩, .inr ⟨b4, o4, e4, ty.Okb.free _ _, s4⟩, (fun lo e => by cases e), (fun lo e => by cases e)⟩
def RdVc (w : World) (v : Value) (l : List ty.It) : Prop := ∃ a c, v = .slice a l.length c ∧ RdC w a l
theorem rdvc_of {base : Nat} {w : World} {v : Value} {zs : List Iz} (h : RwI base w v zs) (hz : ∀ (j : Nat) (z : Iz), zs[j]? = some z → RdZc w z) : RdVc w v (zs.map Iz.x) := by
 obtain ⟨g, c, rfl, _, _, _, hc⟩ := h.shape
 refine ⟨some ⟨g, 0, none⟩, c, by rw [List.length_map], fun i x hx => ?_⟩
 rw [List.getElem?_map] at hx
 cases hzi : zs[i]? with
 | none => rw [hzi] at hx; cases hx
 | some z =>
  rw [hzi] at hx
  cases hx
  have hcell : ∀ r (hr5 : r < 5) u, (izC z)[r]? = some u → w.cell? ⟨g, 0 + i * 5 + r, none⟩ = some u := fun r hr5 u hu => by
   rw [Nat.zero_add]
   exact hc (i * 5 + r) u (by rw [itC_at hzi r hr5]; exact hu)
  exact ⟨g, 0, z.a2, z.c2, z.a4, z.c4, rfl, ⟨hcell 0 (by omega) _ rfl, hcell 1 (by omega) _ rfl, hcell 2 (by omega) _ rfl, hcell 3 (by omega) _ rfl, hcell 4 (by omega) _ rfl⟩, (hz i z hzi).1, (hz i z hzi).2.1, (hz i z hzi).2.2⟩
set_option maxHeartbeats 8000000 in
set_option maxRecDepth 100000 in
theorem l12x_any (a a2 : Option Addr) (c tc : Nat) (ps : List ty.It) (p fr : ByteArray) (t : List ty.Et) (w : World) (hb : RdC w a ps) (hw : ty.wtIt ps ≤ 1048576) (ht : RdE w a2 t) (htcl : t.length ≤ tc) (htcm : tc ≤ maxLen) (hwt : ty.wtEt t ≤ 1048576) (hst : stB ps = true) (hp : wd.aokB p = true) (hpz : p.size ≤ 1048576) :
  Calls Tryz.prog 36 #[.slice a ps.length c, .string p, .slice a2 t.length tc, .string fr] w fun e w' => (∃ v, e = .returned (.tuple #[v, .int .i64 (addC ps p t)]) ∧ RdVc w' v (addL ps p fr t)) ∧ Below w.heap.size w w' := by
 have ha : AscI ps := fun i j x y hji hy hx => asc_lt (st_facts hst).2 i j x y hji hy hx
 have hn3 : ps.length ≤ 300 := (st_facts hst).1
 have htl : t.length ≤ 1048576 := by have := ty.wtEt_len t; omega
 obtain ⟨tb, to_, rfl, htc⟩ := ht
 have hsrc : ty.SrcIt none w a ps := hb.src
 have HTC : Hid (t.length ≤ tc ∧ tc ≤ maxLen) := ⟨htcl, htcm⟩
 have hR : tt.EnR w tb to_ t.length (enT t) := src_enr htc
 have HRE : Hid (RdE w (some ⟨tb, to_, none⟩) t) := ⟨tb, to_, rfl, htc⟩
 have HSU : Hid (Calls Tryz.prog 76 #[.slice (some ⟨tb, to_, none⟩) t.length tc] w fun e w' => e = .returned (.string (tt.tsB (enT t) t.length)) ∧ Below w.heap.size w w') := tt.stsum_any (enT t) tb to_ t.length tc w hR (small_enr hwt) htl htcl htcm
 have HFI : Hid (∀ W, Below w.heap.size w W → Calls Tryz.prog 26 #[.slice a ps.length c, .string p] W fun e w' => (∃ r : Int, e = .returned (.int .i64 r) ∧ FdI ps p.data.toList r) ∧ w' = W) := fun W h => sfindI_any a c ps p W (hsrc.below h) (by omega)
 have HPT : Hid (∀ W, Below w.heap.size w W → Calls Tryz.prog 44 #[.slice a ps.length c] W fun e w' => (∃ v, e = .returned v ∧ sr.OwnS W.heap.size w' v (pths ps)) ∧ Below W.heap.size W w') := fun W h => spaths_any a c ps W (hsrc.below h) (by omega)
 have HPL : Hid ((pths ps).length = ps.length) := pths_len ps
 have HPS : Hid (∀ y ∈ pths ps ++ [p.data.toList], y.length ≤ 1048576) := fun y hy => by
  rcases List.mem_append.1 hy with h | h
  ·obtain ⟨i, x, hx, e⟩ := mem_pths.1 h
   have h1 := ty.wtIt_mem (List.mem_of_getElem? hx)
   unfold ty.wt1It at h1
   have e2 : x.fPath.data.toList.length = x.fPath.size := Array.length_toList
   rw [← e]
   omega
  ·simp only [List.mem_singleton] at h
   subst h
   have e2 : p.data.toList.length = p.size := Array.length_toList
   omega
 have HRN : Hid (∀ W v, Below w.heap.size w W → sr.StrR W v (pths ps ++ [p.data.toList]) → Calls Tryz.prog 77 #[.slice (some ⟨tb, to_, none⟩) t.length tc, v] W fun e w' => (∃ v', e = .returned v' ∧ sr.StrR w' v' (rf.rfs (enT t) t.length (pths ps ++ [p.data.toList]))) ∧ Below W.heap.size W w') := fun W v h hv => by
  obtain ⟨bb, off, cap, rfl, _, _, hc⟩ := hv
  exact rf.srefs_any (enT t) tb to_ t.length tc _ bb off cap W (hR.below h) (small_enr hwt) htl hc HPS.out (by rw [List.length_append, HPL.out]; simp; omega)
 have HIT : Hid (∀ (i : Nat) (x : ty.It), ps[i]? = some x → ∃ b o a3 c3 xb xo xc, a = some ⟨b, o, none⟩ ∧ (∀ W, Below w.heap.size w W → (W.cell? ⟨b, o + i * 5, none⟩ = some (.string x.fPath) ∧ W.cell? ⟨b, o + i * 5 + 1, none⟩ = some (.string x.fSum) ∧ W.cell? ⟨b, o + i * 5 + 2, none⟩ = some (.slice a3 x.fRefs.length c3) ∧ W.cell? ⟨b, o + i * 5 + 3, none⟩ = some (.string x.fFrom) ∧ W.cell? ⟨b, o + i * 5 + 4, none⟩ = some (.slice (some ⟨xb, xo, none⟩) x.fTree.length xc))) ∧ (RdT w a3 x.fRefs ∧ RdE w (some ⟨xb, xo, none⟩) x.fTree ∧ x.fTree.length ≤ xc ∧ xc ≤ maxLen) ∧ ∀ W, Below w.heap.size w W → Calls Tryz.prog 77 #[.slice (some ⟨xb, xo, none⟩) x.fTree.length xc, .slice (some ⟨W.heap.size, 0, none⟩) 1 1] (W.alloc (.cells #[.string p] 9)) fun e w' => (∃ bb off L rc, e = .returned (.slice (some ⟨bb, off, none⟩) L rc) ∧ (0 < L ↔ rf.inB (enT x.fTree) x.fTree.length (p.data.toList.take 13) = true)) ∧ Below (W.alloc (.cells #[.string p] 9)).heap.size (W.alloc (.cells #[.string p] 9)) w') := fun i x hx => by
  obtain ⟨b, o, a3, c3, a4, c4, rfl, ⟨q0, q1, q2, q3, q4⟩, s2, ⟨xb, xo, rfl, hxc⟩, k1, k2⟩ := hb i x hx
  have hwx := ty.wtIt_mem (List.mem_of_getElem? hx)
  unfold ty.wt1It at hwx
  have hxl : x.fTree.length ≤ 1048576 := by have := ty.wtEt_len x.fTree; omega
  refine ⟨b, o, a3, c3, xb, xo, c4, rfl, fun W h => ?_, ⟨s2, ⟨xb, xo, rfl, hxc⟩, k1, k2⟩, fun W h => ?_⟩
  ·have k : ∀ {r v}, w.cell? ⟨b, r, none⟩ = some v → W.cell? ⟨b, r, none⟩ = some v := fun {r v} h' => (h.cell (p := ⟨b, r, none⟩) (World.block_lt_of_cell? _ _ h')).trans h'
   exact ⟨k q0, k q1, k q2, k q3, k q4⟩
  ·have hA : Below w.heap.size w (W.alloc (.cells #[.string p] 9)) := h.alloc h.size _
   refine (rf.srefs_any (enT x.fTree) xb xo x.fTree.length c4 [p.data.toList] W.heap.size 0 1 (W.alloc (.cells #[.string p] 9)) ((src_enr hxc).below hA) (small_enr (by omega)) hxl (fun j y hy => ?_) (fun y hy => ?_) (by simp)).mono ?_
   ·match j, hy with
    | 0, hy => cases hy; simp [go_sem, sr.strL]
    | j + 1, hy => simp at hy
   ·simp only [List.mem_singleton] at hy
    subst hy
    have e2 : p.data.toList.length = p.size := Array.length_toList
    omega
   ·rintro e w' ⟨⟨v, rfl, bb, off, rc, rfl, _⟩, hl⟩
    exact ⟨⟨bb, off, _, rc, rfl, rfs_one hp⟩, hl⟩
 have HST : Hid (∀ W, Below w.heap.size w W → RdVc W (.slice a ps.length c) ps) := fun W h => ⟨a, c, rfl, hb.below h⟩
 have HRK : Hid (RkI ps p.data.toList (rkN ps p.data.toList)) := rk_of ha _
 have HAS : Hid (AscI ps) := ha
 obtain ⟨n, hnn⟩ : ∃ n, ps.length = n := ⟨_, rfl⟩
 have HNN : Hid (ps.length = n) := hnn
 obtain ⟨su, hsu⟩ : ∃ s, tt.tsB (enT t) t.length = s := ⟨_, rfl⟩
 have HSS : Hid (tt.tsB (enT t) t.length = su) := hsu
 obtain ⟨nt, hnt⟩ : ∃ n, t.length = n := ⟨_, rfl⟩
 have HNT : Hid (t.length = nt) := hnt
 rw [hnn] at HFI HPT HST hn3 ⊢
 rw [hsu] at HSU
 rw [hnt] at HSU ⊢
 clear hb hsrc htcl htcm hw hwt hst ha hR htc hnn hsu hnt htl
 go_enter Tryz.func36, Tryz.ntmps36
 go_wp2_with (first
  | (go_at_call 76; refine HSU.out.mono ?_; rintro e w1 ⟨rfl, hl1⟩)
  | (go_at_call 26; refine (HFI.out _ hl1).mono ?_; rintro e w2 ⟨⟨r, rfl, hr⟩, hw2⟩; obtain rfl := hw2.symm; refine Hid.out ?_))
 refine Lib.hid ?_
 clear HSU HFI
 rcases hr with ⟨rfl, hno⟩ | ⟨i, x, rfl, hx, hxe⟩
 rotate_left
 ·obtain ⟨b, o, a3, c3, xb, xo, xc, rfl, hcl, _, _⟩ := HIT.out i x hx
  obtain ⟨q0, q1, q2, q3, q4⟩ := hcl _ hl1
  have hin : i < n := by have := (List.getElem?_eq_some_iff.1 hx).1; have := HNN.out; omega
  have hin' : (i : Int) < (n : Int) := by omega
  have hi0 : (0 : Int) ≤ (i : Int) := by omega
  have HE : Hid ((addC ps p t = if x.fSum = tt.tsB (enT t) t.length then 1 else 2) ∧ addL ps p fr t = ps) := add_had HAS.out hx hxe
  rw [HSS.out] at HE
  obtain ⟨S1, hS1⟩ : ∃ S, x.fSum = S := ⟨_, rfl⟩
  rw [hS1] at q1 HE
  have HV : Hid (RdVc w1 (.slice (some ⟨b, o, none⟩) n c) (addL ps p fr t)) := by show RdVc _ _ _; rw [HE.out.2]; exact HST.out _ hl1
  clear hcl hx hxe hS1 q0 q2 q3 q4 HIT HPT HRN HST HRK HAS HPS HPL HRE
  cases he : (S1.toList == su.toList) with
  | true =>
   have HC : Hid (addC ps p t = 1) := by show _ = _; rw [HE.out.1, if_pos (of_decide_eq_true ((beq_dec S1 su).symm.trans he))]
   clear HE
   go_wp2
   go_ret2
   exact ⟨⟨_, by rw [HC.out]; first | done | rfl, HV.out⟩, hl1⟩
  | false =>
   have HC : Hid (addC ps p t = 2) := by show _ = _; rw [HE.out.1, if_neg (of_decide_eq_false ((beq_dec S1 su).symm.trans he))]
   clear HE
   go_wp2
   go_ret2
   exact ⟨⟨_, by rw [HC.out]; first | done | rfl, HV.out⟩, hl1⟩
 have HNO : Hid (∀ (j : Nat) (z : ty.It), ps[j]? = some z → z.fPath.data.toList ≠ p.data.toList) := hno
 have HL1 : Hid (Below w.heap.size w w1) := hl1
 clear hno hl1
 go_wp2
 go_loopw [12] (fun y wr => ∃ i : Nat, i ≤ n ∧ y = .int .i64 (i : Int) ∧ (∀ (j : Nat) (z : ty.It), j < i → ps[j]? = some z → rf.inB (enT z.fTree) z.fTree.length (p.data.toList.take 13) = false) ∧ Below w.heap.size w wr) (fun y _ => n - (intOf y).toNat)
 case atStart => exact ⟨0, Nat.zero_le _, rfl, fun j z h => by omega, HL1.out⟩
 case round =>
  clear HL1
  obtain ⟨i, hi, rfl, hna, hbe⟩ := hrel
  have HNA : Hid (∀ (j : Nat) (z : ty.It), j < i → ps[j]? = some z → rf.inB (enT z.fTree) z.fTree.length (p.data.toList.take 13) = false) := hna
  have HBE : Hid (Below w.heap.size w wr) := hbe
  clear hna
  by_cases hil : i < n
  ·have hil' : (i : Int) < (n : Int) := by omega
   have hi0 : (0 : Int) ≤ (i : Int) := by omega
   obtain ⟨x, hx⟩ : ∃ x, ps[i]? = some x := ⟨_, List.getElem?_eq_getElem (by rw [HNN.out]; exact hil)⟩
   have HX : Hid (ps[i]? = some x) := hx
   obtain ⟨b, o, a3, c3, xb, xo, xc, rfl, hcl, _, hrf⟩ := HIT.out i x hx
   obtain ⟨q0, q1, q2, q3, q4⟩ := hcl _ hbe
   have HRF := Lib.hid (hrf _ hbe)
   obtain ⟨B, hB⟩ : ∃ B, rf.inB (enT x.fTree) x.fTree.length (p.data.toList.take 13) = B := ⟨_, rfl⟩
   have HB : Hid (rf.inB (enT x.fTree) x.fTree.length (p.data.toList.take 13) = B) := hB
   rw [hB] at HRF
   obtain ⟨xl, hxl⟩ : ∃ l, x.fTree.length = l := ⟨_, rfl⟩
   rw [hxl] at HRF q4
   clear hcl hrf hx hB hxl q0 q1 q2 q3 hbe
   cases B with
   | true =>
    have HE : Hid (addC ps p t = 3 ∧ addL ps p fr t = ps) := add_aw HNO.out HX.out HB.out
    have HVV : Hid (∀ W, Below w.heap.size w W → RdVc W (.slice (some ⟨b, o, none⟩) n c) (addL ps p fr t)) := fun W h => by rw [HE.out.2]; exact HST.out _ h
    go_wp2_with (go_at_call 77; refine HRF.out.mono ?_; rintro e w3 ⟨⟨bb, off, L, rc, rfl, hL⟩, hl3⟩; have hL0 : (0 : Int) < (L : Int) := (by have := hL.2 rfl; omega); have hB3 : Below w.heap.size w w3 := (HBE.out.alloc HBE.out.size _).trans (hl3.mono (HBE.out.alloc HBE.out.size _).size))
    go_ret2
    exact ⟨⟨_, by rw [HE.out.1]; first | done | rfl, HVV.out _ hB3⟩, hB3⟩
   | false =>
    have HN2 : Hid (∀ (j : Nat) (z : ty.It), j < i + 1 → ps[j]? = some z → rf.inB (enT z.fTree) z.fTree.length (p.data.toList.take 13) = false) := fun j z hj hz => by
     rcases Nat.lt_or_ge j i with h | h
     ·exact HNA.out j z h hz
     ·obtain rfl : j = i := by omega
      rw [HX.out] at hz
      cases hz
      exact HB.out
    go_wp2_with (go_at_call 77; refine HRF.out.mono ?_; rintro e w3 ⟨⟨bb, off, L, rc, rfl, hL⟩, hl3⟩; have hL0 : ¬ (0 : Int) < (L : Int) := (fun h => by have := hL.1 (by omega); cases this); have hB3 : Below w.heap.size w w3 := (HBE.out.alloc HBE.out.size _).trans (hl3.mono (HBE.out.alloc HBE.out.size _).size))
    go_roundw
    case rel => exact ⟨i + 1, by omega, by go_num, HN2.out, hB3⟩
    case measure => simp [intOf] <;> omega
  ·have hil' : ¬ (i : Int) < (n : Int) := by omega
   have HAW : Hid (awB ps p = false) := aw_no fun j z hz => HNA.out j z (by have := (List.getElem?_eq_some_iff.1 hz).1; have := HNN.out; omega) hz
   clear HNA
   by_cases h300 : n = 300
   ·have HE : Hid (addC ps p t = 4 ∧ addL ps p fr t = ps) := add_full HNO.out HAW.out (HNN.out.trans h300)
    subst h300
    have HV : Hid (RdVc wr (.slice a 300 c) (addL ps p fr t)) := by show RdVc _ _ _; rw [HE.out.2]; exact HST.out _ hbe
    go_wp2
    go_ret2
    exact ⟨⟨_, by rw [HE.out.1]; first | done | rfl, HV.out⟩, HBE.out⟩
   have h300' : ¬ (n : Int) = 300 := by omega
   have HE : Hid (addC ps p t = 0 ∧ addL ps p fr t = insL ps (newI ps p fr t)) := add_yes HNO.out HAW.out (by rw [HNN.out]; exact h300)
   clear HAW hbe
   obtain ⟨W2, hW2⟩ : ∃ W2, W2 = (wr.alloc (.cells #[] 42)).alloc (.cells #[.string p, .string su, .slice none 0 0, .string fr, .slice (some ⟨tb, to_, none⟩) nt tc] 42) := ⟨_, rfl⟩
   have HW2 : Hid (W2 = (wr.alloc (.cells #[] 42)).alloc (.cells #[.string p, .string su, .slice none 0 0, .string fr, .slice (some ⟨tb, to_, none⟩) nt tc] 42)) := hW2
   have HZ2 : Hid (W2.heap.size = wr.heap.size + 2) := by show _ = _; rw [hW2]; simp
   have HB2 : Hid (Below w.heap.size w W2) := by show Below _ _ _; rw [hW2]; exact (HBE.out.alloc HBE.out.size _).alloc (by simp; have := HBE.out.size; omega) _
   have HG0 : Hid (W2.heap[wr.heap.size]? = some (.cells #[] 42 (0, 0))) := by show _ = _; rw [hW2, blk_alloc_lt _ _ _ (by simp)]; exact heap_alloc_new wr _
   have HX0 : Hid (W2.rowIs (wr.heap.size + 1) 42 5 (fun i => [Value.string p, .string su, .slice none 0 0, .string fr, .slice (some ⟨tb, to_, none⟩) nt tc][i]?.getD undef)) := by
    have h := World.rowIs_alloc (wr.alloc (.cells #[] 42)) #[Value.string p, .string su, .slice none 0 0, .string fr, .slice (some ⟨tb, to_, none⟩) nt tc] 42 (fun i => [Value.string p, .string su, .slice none 0 0, .string fr, .slice (some ⟨tb, to_, none⟩) nt tc][i]?.getD undef) (fun i hi => by
     match i, hi with
     | 0, _ => rfl
     | 1, _ => rfl
     | 2, _ => rfl
     | 3, _ => rfl
     | 4, _ => rfl)
    rw [← hW2, World.size_alloc] at h
    exact h
   clear hW2
   go_wp2_with (go_at_call 44; rw [← HW2.out]; refine (HPT.out _ HB2.out).mono ?_; rintro e w3 ⟨⟨v3, rfl, hv3⟩, hl3⟩; refine Hid.out ?_)
   refine Lib.hid ?_
   have HV3 : Hid (sr.OwnS W2.heap.size w3 v3 (pths ps)) := hv3
   have HL3 : Hid (Below W2.heap.size W2 w3) := hl3
   obtain ⟨W4, hW4⟩ : ∃ W4, W4 = w3.alloc (.cells #[.string p] 9) := ⟨_, rfl⟩
   have HW4 : Hid (W4 = w3.alloc (.cells #[.string p] 9)) := hW4
   have HL4 : Hid (Below w3.heap.size w3 W4) := by show Below _ _ _; rw [hW4]; exact (Below.refl _ _).alloc (Nat.le_refl _) _
   have HO4 : Hid (W4.ownsRow W2.heap.size 9 1 v3 (pths ps).length ((pths ps).map sr.strL)) := own_belowI HV3.out.1 HL4.out
   have HNW : Hid (∀ j u, ([p.data.toList].map sr.strL)[j]? = some u → W4.cell? ((⟨w3.heap.size, 0, none⟩ : Addr).add j) = some u) := by
    show ∀ j u, _ → _
    rw [hW4, List.map_cons, List.map_nil, strL_of]
    exact cells_newI w3 w3.heap.size rfl 9 [.string p]
   have HBW4 : Hid (Below w.heap.size w W4) := by
    have h1 := HB2.out.trans (HL3.out.mono HB2.out.size)
    exact h1.trans (HL4.out.mono h1.size)
   have HS4 : Hid (W2.heap.size ≤ W4.heap.size) := Nat.le_trans HL3.out.size HL4.out.size
   have HPN : Hid ((pths ps).length + 1 ≤ 1000000) := by show _ ≤ _; rw [HPL.out, HNN.out]; omega
   clear hv3 hl3 hW4
   go_wp2_with (first
    | (at_builtin; refine app_str_at _ rfl _ _ rfl W2.heap.size v3 (pths ps) rfl (by rw [← HW4.out]; exact HO4.out) HV3.out.2 ⟨w3.heap.size, 0, none⟩ 1 1 [p.data.toList] rfl rfl (by rw [← HW4.out]; exact HNW.out) HPN.out (by rw [← HW4.out]; exact HS4.out) ?_; intro v5 w5 hown5 hnn5 hg5 hbk5; refine Hid.out ?_)
    | go_in)
   refine Lib.hid ?_
   rw [← HW4.out] at hg5
   have HB5 : Hid (Below W2.heap.size W2 w5) := below_grownS (HL3.out.trans (HL4.out.mono HL3.out.size)) HO4.out hg5 HS4.out
   have HBW5 : Hid (Below w.heap.size w w5) := HB2.out.trans (HB5.out.mono HB2.out.size)
   have HR5 := Lib.hid (HRN.out w5 v5 HBW5.out (sr.StrR.own' hown5 hnn5))
   clear hown5 hnn5 hg5 hbk5 HRN HPT
   rw [HNT.out] at HR5
   go_wp2_with (go_at_call 77; refine HR5.out.mono ?_; rintro e w6 ⟨⟨v6, rfl, hv6⟩, hl6⟩; refine Hid.out ?_)
   refine Lib.hid ?_
   obtain ⟨rb, ro, rc, hve, _, _, hcr⟩ := hv6
   subst hve
   have HL6 : Hid (Below w5.heap.size w5 w6) := hl6
   have HB6 : Hid (Below W2.heap.size W2 w6) := HB5.out.trans (HL6.out.mono HB5.out.size)
   have HX6 : Hid (w6.rowIs (wr.heap.size + 1) 42 5 (fun i => [Value.string p, .string su, .slice none 0 0, .string fr, .slice (some ⟨tb, to_, none⟩) nt tc][i]?.getD undef)) := HX0.out.of_block (HB6.out.block _ HX0.out.lt)
   have HG6 : Hid (w6.heap[wr.heap.size]? = some (.cells #[] 42 (0, 0))) := (HB6.out.block _ (by have := HZ2.out; omega)).trans HG0.out
   have HTX : Hid (RdT w6 (some ⟨rb, ro, none⟩) (newI ps p fr t).fRefs) := by
    refine ⟨rb, ro, rfl, fun j y hy => ?_⟩
    have hy' : ((rf.rfs (enT t) t.length (pths ps ++ [p.data.toList])).map (fun l => (⟨l.toArray⟩ : ByteArray)))[j]? = some y := hy
    rw [List.getElem?_map] at hy'
    obtain ⟨l, hl, rfl⟩ := Option.map_eq_some_iff.1 hy'
    exact hcr j l (by rw [← HNT.out]; exact hl)
   have HRL : Hid ((newI ps p fr t).fRefs.length = (rf.rfs (enT t) nt (pths ps ++ [p.data.toList])).length) := by show ((rf.rfs (enT t) t.length (pths ps ++ [p.data.toList])).map _).length = _; rw [List.length_map, HNT.out]
   obtain ⟨RL, hRL⟩ : ∃ R, (rf.rfs (enT t) nt (pths ps ++ [p.data.toList])).length = R := ⟨_, rfl⟩
   rw [hRL] at HRL ⊢
   obtain ⟨W7, hW7⟩ : ∃ W7, W7 = w6.setCell ⟨wr.heap.size + 1, 2, none⟩ (.slice (some ⟨rb, ro, none⟩) RL rc) := ⟨_, rfl⟩
   have HW7 : Hid (W7 = w6.setCell ⟨wr.heap.size + 1, 2, none⟩ (.slice (some ⟨rb, ro, none⟩) RL rc)) := hW7
   have hx67 := HX6.out.set 2 (.slice (some ⟨rb, ro, none⟩) RL rc)
   rw [← hW7] at hx67
   have HX7 : Hid (W7.rowIs (wr.heap.size + 1) 42 5 (fun j => if j = 2 then .slice (some ⟨rb, ro, none⟩) RL rc else [Value.string p, .string su, .slice none 0 0, .string fr, .slice (some ⟨tb, to_, none⟩) nt tc][j]?.getD undef)) := hx67
   have hoth : ∀ q, q ≠ wr.heap.size + 1 → W7.heap[q]? = w6.heap[q]? := fun q hq => by rw [hW7]; exact blk_setCell_other _ _ _ _ hq
   have HZ7 : Hid (W7.heap.size = w6.heap.size) := by show _ = _; rw [hW7, World.size_setCell]
   have HG7 : Hid (W7.heap[wr.heap.size]? = some (.cells #[] 42 (0, 0))) := (hoth _ (by omega)).trans HG6.out
   have HE7 : Hid (∀ j, W7.cell? ⟨wr.heap.size, j, none⟩ = none) := empty_cells HG7.out
   have HT7 : Hid (RdT W7 (some ⟨rb, ro, none⟩) (newI ps p fr t).fRefs) := by
    obtain ⟨b', o', e', hc'⟩ := HTX.out
    cases e'
    refine ⟨rb, ro, rfl, fun j y hy => ?_⟩
    have h1 := hc' j y hy
    by_cases hq : rb = wr.heap.size + 1
    ·subst hq
     have hk : ro + j ≠ 2 := fun e => by
      rw [e, HX6.out.cell (i := 2) (by omega)] at h1
      cases h1
     rw [hW7]
     have h2 : (w6.setCell ⟨wr.heap.size + 1, 2, none⟩ (.slice (some ⟨wr.heap.size + 1, ro, none⟩) RL rc)).cell? ⟨wr.heap.size + 1, ro + j, none⟩ = w6.cell? ⟨wr.heap.size + 1, ro + j, none⟩ := by
      obtain ⟨cs, hcs, _, _⟩ := HX6.out
      simp [World.cell?, World.setCell, Array.getElem?_modify, hcs, Array.getElem?_setIfInBounds, Ne.symm hk]
     rw [h2]
     exact h1
    ·exact (World.cell?_of_block (a := ⟨rb, ro + j, none⟩) (hoth _ hq)).trans h1
   have HB7 : Hid (Below w.heap.size w W7) := by
    show Below _ _ _
    rw [hW7]
    have h6 : Below w.heap.size w w6 := HB2.out.trans (HB6.out.mono HB2.out.size)
    exact h6.setCell (show w.heap.size ≤ wr.heap.size + 1 by have := HBE.out.size; omega) _
   obtain ⟨K, hK⟩ : ∃ K, rkN ps p.data.toList = K := ⟨_, rfl⟩
   rw [hK] at HRK
   obtain ⟨xn, hxn⟩ : ∃ xn, newI ps p fr t = xn := ⟨_, rfl⟩
   have HXN : Hid (xn.fPath = p ∧ xn.fSum = su ∧ xn.fFrom = fr ∧ xn.fTree = t ∧ xn.fRefs.length = RL) := by
    rw [← hxn]
    exact ⟨rfl, HSS.out, rfl, rfl, HRL.out⟩
   have HIN : Hid (insL ps xn = ps.take K ++ xn :: ps.drop K) := by
    show insL ps xn = _
    unfold insL
    rw [HXN.out.1, hK]
   rw [hxn] at HT7 HE
   rw [HIN.out] at HE
   obtain ⟨zn, hzn⟩ : ∃ zn : Iz, zn = ⟨xn, some ⟨rb, ro, none⟩, rc, some ⟨tb, to_, none⟩, tc, 0, 0, 0, 0⟩ := ⟨_, rfl⟩
   have HZN : Hid (izC zn = [.string p, .string su, .slice (some ⟨rb, ro, none⟩) RL rc, .string fr, .slice (some ⟨tb, to_, none⟩) nt tc] ∧ zn.x = xn ∧ ∀ wr', KpB W7 wr.heap.size wr' → Below w.heap.size w wr' → RdZc wr' zn) := by
    rw [hzn]
    refine ⟨?_, rfl, fun wr' hk hb' => ⟨hk.texts HE7.out HT7.out, ?_, ?_⟩⟩
    ·obtain ⟨e1, e2, e3, e4, e5⟩ := HXN.out
     show [Value.string xn.fPath, .string xn.fSum, .slice _ xn.fRefs.length _, .string xn.fFrom, .slice _ xn.fTree.length _] = _
     rw [e1, e2, e3, e4, e5, HNT.out]
    ·show RdE wr' _ xn.fTree
     rw [HXN.out.2.2.2.1]
     exact HRE.out.below hb'
    ·show xn.fTree.length ≤ tc ∧ tc ≤ maxLen
     rw [HXN.out.2.2.2.1]
     exact HTC.out
   have HXB : Hid (∀ wr', KpB W7 wr.heap.size wr' → (wr'.cell? ⟨wr.heap.size + 1, 0, none⟩ = some (.string p) ∧ wr'.cell? ⟨wr.heap.size + 1, 1, none⟩ = some (.string su) ∧ wr'.cell? ⟨wr.heap.size + 1, 2, none⟩ = some (.slice (some ⟨rb, ro, none⟩) RL rc) ∧ wr'.cell? ⟨wr.heap.size + 1, 3, none⟩ = some (.string fr) ∧ wr'.cell? ⟨wr.heap.size + 1, 4, none⟩ = some (.slice (some ⟨tb, to_, none⟩) nt tc))) := fun wr' hk => by
    have hne : wr.heap.size + 1 ≠ wr.heap.size := by omega
    exact ⟨hk.cell hne (HX7.out.cell (i := 0) (by omega)), hk.cell hne (HX7.out.cell (i := 1) (by omega)), hk.cell hne (HX7.out.cell (i := 2) (by omega)), hk.cell hne (HX7.out.cell (i := 3) (by omega)), hk.cell hne (HX7.out.cell (i := 4) (by omega))⟩
   have HOT : Hid (OtR w W7 wr.heap.size W7 (.slice (some ⟨wr.heap.size, 0, none⟩) 0 0) []) := ⟨⟨⟨rfl, .inr ⟨wr.heap.size, 0, #[], rfl, HBE.out.size, HG7.out, Nat.le_refl _, Nat.zero_le _, by simp, by simp [itC]⟩⟩, by intro e; cases e⟩, ⟨_, rfl, .inl rfl⟩, KpB.refl _ _, HB7.out⟩
   have x0 := HX6.out.cell (i := 2) (by omega)
   have f0 := HX6.out.frozen 2
   clear hRL hW7 hx67 hoth hK hxn hzn hcr hl6 HTX HT7 HE7 HX7 HG7 HG6 HX6 HB6 HL6 HR5 HB5 HBW5 HO4 HNW HBW4 HS4 HPN HL4 HL3 HV3 HW4 HX0 HG0 HZ2 HW2 HB2 HPL HPS HRL HXN HIN HB7 HZ7 HST
   go_wp2
   rw [← HW7.out]
   obtain ⟨g0, hg0⟩ : ∃ g, wr.heap.size = g := ⟨_, rfl⟩
   rw [hg0] at HXB HZN HOT ⊢
   clear hg0 HW7 x0 f0 HBE
   go_loopw [13, 15, 16] (fun v d y wr => ∃ (i : Nat) (zs : List Iz), i ≤ n ∧ y = .int .i64 (i : Int) ∧ d = .bool (decide (K < i)) ∧ zs.map Iz.x = insP ps xn K i ∧ zs.length ≤ i + 1 ∧ (∀ (j : Nat) (z : Iz), zs[j]? = some z → RdZc w z ∨ z = zn) ∧ OtR w W7 g0 wr v zs) (fun _ _ y _ => n - (intOf y).toNat)
   case atStart => exact ⟨0, [], Nat.zero_le _, rfl, by rw [decide_eq_false (by omega)], by rw [insP_le (Nat.zero_le _)]; rfl, by simp, fun j z h => by simp at h, HOT.out⟩
   case round =>
    clear HOT
    obtain ⟨i, zs, hi, rfl, rfl, hmap, hzl, hzz, hot⟩ := hrel
    have HMA : Hid (zs.map Iz.x = insP ps xn K i) := hmap
    have HZL : Hid (zs.length ≤ i + 1) := hzl
    have HZZ : Hid (∀ (j : Nat) (z : Iz), zs[j]? = some z → RdZc w z ∨ z = zn) := hzz
    have HOT : Hid (OtR w W7 g0 wr u13 zs) := hot
    have HBE : Hid (Below w.heap.size w wr) := hot.be
    clear hmap hzl hzz hot
    have HAZ : Hid (∀ (ys : List Iz) (z : Iz), (∀ (j : Nat) (z : Iz), ys[j]? = some z → RdZc w z ∨ z = zn) → (RdZc w z ∨ z = zn) → ∀ (j : Nat) (y : Iz), (ys ++ [z])[j]? = some y → RdZc w y ∨ y = zn) := fun ys z h1 h2 j y hy => by
     rcases Nat.lt_or_ge j ys.length with h | h
     ·rw [List.getElem?_append_left h] at hy; exact h1 j y hy
     ·rw [List.getElem?_append_right h] at hy
      rcases hjz : j - ys.length with _ | k
      ·rw [hjz] at hy; simp at hy; subst hy; exact h2
      ·rw [hjz] at hy; simp at hy
    by_cases hil : i < n
    ·have hil' : (i : Int) < (n : Int) := by omega
     have hi0 : (0 : Int) ≤ (i : Int) := by omega
     obtain ⟨x, hx⟩ : ∃ x, ps[i]? = some x := ⟨_, List.getElem?_eq_getElem (by rw [HNN.out]; exact hil)⟩
     have HX : Hid (ps[i]? = some x) := hx
     obtain ⟨b, o, a3, c3, xb, xo, xc, rfl, hcl, hrd, _⟩ := HIT.out i x hx
     obtain ⟨zi, hzi⟩ : ∃ zi : Iz, zi = ⟨x, a3, c3, some ⟨xb, xo, none⟩, xc, 0, 0, 0, 0⟩ := ⟨_, rfl⟩
     have HZI : Hid (izC zi = [.string x.fPath, .string x.fSum, .slice a3 x.fRefs.length c3, .string x.fFrom, .slice (some ⟨xb, xo, none⟩) x.fTree.length xc] ∧ zi.x = x ∧ RdZc w zi) := by rw [hzi]; exact ⟨rfl, rfl, hrd⟩
     have HCL := Lib.hid hcl
     obtain ⟨P, hP⟩ : ∃ P, x.fPath = P := ⟨_, rfl⟩
     obtain ⟨S, hS⟩ : ∃ P, x.fSum = P := ⟨_, rfl⟩
     obtain ⟨F, hF⟩ : ∃ P, x.fFrom = P := ⟨_, rfl⟩
     obtain ⟨r3, hr3⟩ : ∃ P, x.fRefs.length = P := ⟨_, rfl⟩
     obtain ⟨xl, hxl⟩ : ∃ P, x.fTree.length = P := ⟨_, rfl⟩
     have HLO : Hid (i < K → P.data.toList < p.data.toList) := fun h => by rw [← hP]; exact HRK.out.lo i x h hx
     have HHI : Hid (K ≤ i → ¬ P.data.toList < p.data.toList) := fun h => by rw [← hP]; exact HRK.out.hi i x h hx
     have HNE : Hid (P.data.toList ≠ p.data.toList) := by rw [← hP]; exact HNO.out i x hx
     rw [hP, hS, hF, hr3, hxl] at HCL HZI
     clear hP hS hF hr3 hxl hzi hcl hrd hx
     obtain ⟨q0, q1, q2, q3, q4⟩ := HCL.out _ HBE.out
     by_cases hKi : K < i
     ·have hd : decide (K < i) = true := decide_eq_true hKi
      have HD2 : Hid (decide (K < i + 1) = true) := decide_eq_true (by omega)
      have HM2 : Hid ((zs ++ [zi]).map Iz.x = insP ps xn K (i + 1)) := by show _ = _; rw [List.map_append, HMA.out, insP_more hKi HX.out, List.map_cons, HZI.out.2.1]; rfl
      rw [hd]
      obtain ⟨W8, hW8⟩ : ∃ X, X = wr.alloc (.cells #[.string P, .string S, .slice a3 r3 c3, .string F, .slice (some ⟨xb, xo, none⟩) xl xc] 42) := ⟨_, rfl⟩
      have HW8 : Hid (W8 = wr.alloc (.cells #[.string P, .string S, .slice a3 r3 c3, .string F, .slice (some ⟨xb, xo, none⟩) xl xc] 42)) := hW8
      have HL8 : Hid (Below wr.heap.size wr W8) := by show Below _ _ _; rw [hW8]; exact (Below.refl _ _).alloc (Nat.le_refl _) _
      have HT8 : Hid (OtR w W7 g0 W8 u13 zs) := (HOT.out).below HL8.out
      have HN8 : Hid (∀ j u, (izC zi)[j]? = some u → W8.cell? ((⟨wr.heap.size, 0, none⟩ : Addr).add j) = some u) := by
       show ∀ j u, _ → _
       rw [hW8, HZI.out.1]
       exact cells_newI wr _ rfl _ _
      have HZ8 : Hid ((zs).length ≤ 400000000) := by show _ ≤ _; have := HZL.out; simp; omega
      clear hW8
      go_wp2_with (first
       | (at_builtin; refine app_it_at _ rfl _ _ rfl w.heap.size u13 (zs) rfl (by rw [← HW8.out]; exact HT8.out.row) ⟨wr.heap.size, 0, none⟩ 1 zi rfl (by rw [← HW8.out]; exact HN8.out) HZ8.out (by rw [← HW8.out]; exact HT8.out.be.size) ?_; intro v9 w9 hr9 hg9 hb9; refine Hid.out ?_)
       | go_in)
      refine Lib.hid ?_
      rw [← HW8.out] at hg9 hb9
      have HO9 : Hid (OtR w W7 g0 w9 v9 (zs ++ [zi])) := HT8.out.app hr9 hg9 hb9
      clear hr9 hg9 hb9
      go_wp2_with fail
      go_roundw
      case rel => exact ⟨i + 1, zs ++ [zi], by omega, by go_num, by rw [HD2.out], HM2.out, by have := HZL.out; simp; omega, HAZ.out zs zi HZZ.out (.inl HZI.out.2.2), HO9.out⟩
      case measure => simp [intOf] <;> omega
     ·have hd : decide (K < i) = false := decide_eq_false hKi
      rw [hd]
      by_cases hiK : i < K
      ·have hbl : Op.bytesLess P.toList p.toList = true := by rw [blI]; exact decide_eq_true (HLO.out hiK)
       have HD2 : Hid (decide (K < i + 1) = false) := decide_eq_false (by omega)
       have HM2 : Hid ((zs ++ [zi]).map Iz.x = insP ps xn K (i + 1)) := by show _ = _; rw [List.map_append, HMA.out, insP_step hiK HX.out, List.map_cons, HZI.out.2.1]; rfl
       obtain ⟨W8, hW8⟩ : ∃ X, X = wr.alloc (.cells #[.string P, .string S, .slice a3 r3 c3, .string F, .slice (some ⟨xb, xo, none⟩) xl xc] 42) := ⟨_, rfl⟩
       have HW8 : Hid (W8 = wr.alloc (.cells #[.string P, .string S, .slice a3 r3 c3, .string F, .slice (some ⟨xb, xo, none⟩) xl xc] 42)) := hW8
       have HL8 : Hid (Below wr.heap.size wr W8) := by show Below _ _ _; rw [hW8]; exact (Below.refl _ _).alloc (Nat.le_refl _) _
       have HT8 : Hid (OtR w W7 g0 W8 u13 zs) := (HOT.out).below HL8.out
       have HN8 : Hid (∀ j u, (izC zi)[j]? = some u → W8.cell? ((⟨wr.heap.size, 0, none⟩ : Addr).add j) = some u) := by
        show ∀ j u, _ → _
        rw [hW8, HZI.out.1]
        exact cells_newI wr _ rfl _ _
       have HZ8 : Hid ((zs).length ≤ 400000000) := by show _ ≤ _; have := HZL.out; simp; omega
       clear hW8
       go_wp2_with (first
        | (at_builtin; refine app_it_at _ rfl _ _ rfl w.heap.size u13 (zs) rfl (by rw [← HW8.out]; exact HT8.out.row) ⟨wr.heap.size, 0, none⟩ 1 zi rfl (by rw [← HW8.out]; exact HN8.out) HZ8.out (by rw [← HW8.out]; exact HT8.out.be.size) ?_; intro v9 w9 hr9 hg9 hb9; refine Hid.out ?_)
        | go_in)
       refine Lib.hid ?_
       rw [← HW8.out] at hg9 hb9
       have HO9 : Hid (OtR w W7 g0 w9 v9 (zs ++ [zi])) := HT8.out.app hr9 hg9 hb9
       clear hr9 hg9 hb9
       go_wp2_with fail
       go_roundw
       case rel => exact ⟨i + 1, zs ++ [zi], by omega, by go_num, by rw [HD2.out], HM2.out, by have := HZL.out; simp; omega, HAZ.out zs zi HZZ.out (.inl HZI.out.2.2), HO9.out⟩
       case measure => simp [intOf] <;> omega
      ·obtain rfl : i = K := by omega
       have hbl : Op.bytesLess P.toList p.toList = false := by rw [blI]; exact decide_eq_false (HHI.out (Nat.le_refl _))
       have hbq : (P.toList == p.toList) = false := by rw [beq_dec]; exact decide_eq_false (fun e => HNE.out (by rw [e]))
       have HD2 : Hid (decide (i < i + 1) = true) := decide_eq_true (by omega)
       have HM2 : Hid ((zs ++ [zn] ++ [zi]).map Iz.x = insP ps xn i (i + 1)) := by show _ = _; rw [List.map_append, List.map_append, HMA.out, insP_at HX.out, List.map_cons, List.map_cons, HZI.out.2.1, HZN.out.2.1]; rfl
       obtain ⟨y0, y1, y2, y3, y4⟩ := HXB.out _ HOT.out.kp
       obtain ⟨W8, hW8⟩ : ∃ X, X = wr.alloc (.cells #[.string p, .string su, .slice (some ⟨rb, ro, none⟩) RL rc, .string fr, .slice (some ⟨tb, to_, none⟩) nt tc] 42) := ⟨_, rfl⟩
       have HW8 : Hid (W8 = wr.alloc (.cells #[.string p, .string su, .slice (some ⟨rb, ro, none⟩) RL rc, .string fr, .slice (some ⟨tb, to_, none⟩) nt tc] 42)) := hW8
       have HL8 : Hid (Below wr.heap.size wr W8) := by show Below _ _ _; rw [hW8]; exact (Below.refl _ _).alloc (Nat.le_refl _) _
       have HT8 : Hid (OtR w W7 g0 W8 u13 zs) := (HOT.out).below HL8.out
       have HN8 : Hid (∀ j u, (izC zn)[j]? = some u → W8.cell? ((⟨wr.heap.size, 0, none⟩ : Addr).add j) = some u) := by
        show ∀ j u, _ → _
        rw [hW8, HZN.out.1]
        exact cells_newI wr _ rfl _ _
       have HZ8 : Hid ((zs).length ≤ 400000000) := by show _ ≤ _; have := HZL.out; simp; omega
       clear hW8
       go_wp2_with (first
        | (at_builtin; refine app_it_at _ rfl _ _ rfl w.heap.size u13 (zs) rfl (by rw [← HW8.out]; exact HT8.out.row) ⟨wr.heap.size, 0, none⟩ 1 zn rfl (by rw [← HW8.out]; exact HN8.out) HZ8.out (by rw [← HW8.out]; exact HT8.out.be.size) ?_; intro v9 w9 hr9 hg9 hb9; refine Hid.out ?_)
        | go_in)
       refine Lib.hid ?_
       rw [← HW8.out] at hg9 hb9
       have HO9 : Hid (OtR w W7 g0 w9 v9 (zs ++ [zn])) := HT8.out.app hr9 hg9 hb9
       clear hr9 hg9 hb9
       obtain ⟨z0, z1, z2, z3, z4⟩ := HCL.out _ HO9.out.be
       clear q0 q1 q2 q3 q4 y0 y1 y2 y3 y4
       obtain ⟨WA, hWA⟩ : ∃ X, X = w9.alloc (.cells #[.string P, .string S, .slice a3 r3 c3, .string F, .slice (some ⟨xb, xo, none⟩) xl xc] 42) := ⟨_, rfl⟩
       have HWA : Hid (WA = w9.alloc (.cells #[.string P, .string S, .slice a3 r3 c3, .string F, .slice (some ⟨xb, xo, none⟩) xl xc] 42)) := hWA
       have HLA : Hid (Below w9.heap.size w9 WA) := by show Below _ _ _; rw [hWA]; exact (Below.refl _ _).alloc (Nat.le_refl _) _
       have HTA : Hid (OtR w W7 g0 WA v9 (zs ++ [zn])) := (HO9.out).below HLA.out
       have HNA : Hid (∀ j u, (izC zi)[j]? = some u → WA.cell? ((⟨w9.heap.size, 0, none⟩ : Addr).add j) = some u) := by
        show ∀ j u, _ → _
        rw [hWA, HZI.out.1]
        exact cells_newI w9 _ rfl _ _
       have HZA : Hid ((zs ++ [zn]).length ≤ 400000000) := by show _ ≤ _; have := HZL.out; simp; omega
       clear hWA
       go_wp2_with (first
        | (at_builtin; refine app_it_at _ rfl _ _ rfl w.heap.size v9 (zs ++ [zn]) rfl (by rw [← HWA.out]; exact HTA.out.row) ⟨w9.heap.size, 0, none⟩ 1 zi rfl (by rw [← HWA.out]; exact HNA.out) HZA.out (by rw [← HWA.out]; exact HTA.out.be.size) ?_; intro vB wB hrB hgB hbB; refine Hid.out ?_)
        | go_in)
       refine Lib.hid ?_
       rw [← HWA.out] at hgB hbB
       have HOB : Hid (OtR w W7 g0 wB vB (zs ++ [zn] ++ [zi])) := HTA.out.app hrB hgB hbB
       clear hrB hgB hbB
       go_wp2_with fail
       go_roundw
       case rel => exact ⟨i + 1, zs ++ [zn] ++ [zi], by omega, by go_num, by rw [HD2.out], HM2.out, by have h9 := congrArg List.length HM2.out; rw [List.length_map] at h9; rw [h9]; unfold insP; rw [if_neg (by omega)]; simp; omega, HAZ.out (zs ++ [zn]) zi (HAZ.out zs zn HZZ.out (.inr rfl)) (.inl HZI.out.2.2), HOB.out⟩
       case measure => simp [intOf] <;> omega
    ·have hil' : ¬ (i : Int) < (n : Int) := by omega
     obtain rfl : i = n := by omega
     have HFV : Hid (∀ (ys : List Iz) (v : Value) (W : World), OtR w W7 g0 W v ys → (∀ (j : Nat) (z : Iz), ys[j]? = some z → RdZc w z ∨ z = zn) → ys.map Iz.x = addL ps p fr t → RdVc W v (addL ps p fr t)) := fun ys v W ho h1 h2 => by
      rw [← h2]
      refine rdvc_of ho.row fun j z hz => ?_
      rcases h1 j z hz with h | rfl
      ·exact h.below ho.be
      ·exact HZN.out.2.2 W ho.kp ho.be
     by_cases hKi : K < i
     ·have hd : decide (K < i) = true := decide_eq_true hKi
      have HV : Hid (RdVc wr u13 (addL ps p fr t)) := HFV.out zs u13 wr HOT.out HZZ.out (by rw [HMA.out, HE.out.2, ← HNN.out]; exact insP_end (by rw [HNN.out]; exact hKi))
      rw [hd]
      go_wp2
      go_ret2
      exact ⟨⟨_, by rw [HE.out.1]; first | done | rfl, HV.out⟩, HBE.out⟩
     ·have hd : decide (K < i) = false := decide_eq_false hKi
      rw [hd]
      have HM2 : Hid ((zs ++ [zn]).map Iz.x = addL ps p fr t) := by show _ = _; rw [List.map_append, HMA.out, HE.out.2, List.map_cons, HZN.out.2.1, ← HNN.out]; exact insP_last (by rw [HNN.out]; omega)
      obtain ⟨y0, y1, y2, y3, y4⟩ := HXB.out _ HOT.out.kp
      obtain ⟨W8, hW8⟩ : ∃ X, X = wr.alloc (.cells #[.string p, .string su, .slice (some ⟨rb, ro, none⟩) RL rc, .string fr, .slice (some ⟨tb, to_, none⟩) nt tc] 42) := ⟨_, rfl⟩
      have HW8 : Hid (W8 = wr.alloc (.cells #[.string p, .string su, .slice (some ⟨rb, ro, none⟩) RL rc, .string fr, .slice (some ⟨tb, to_, none⟩) nt tc] 42)) := hW8
      have HL8 : Hid (Below wr.heap.size wr W8) := by show Below _ _ _; rw [hW8]; exact (Below.refl _ _).alloc (Nat.le_refl _) _
      have HT8 : Hid (OtR w W7 g0 W8 u13 zs) := (HOT.out).below HL8.out
      have HN8 : Hid (∀ j u, (izC zn)[j]? = some u → W8.cell? ((⟨wr.heap.size, 0, none⟩ : Addr).add j) = some u) := by
       show ∀ j u, _ → _
       rw [hW8, HZN.out.1]
       exact cells_newI wr _ rfl _ _
      have HZ8 : Hid ((zs).length ≤ 400000000) := by show _ ≤ _; have := HZL.out; simp; omega
      clear hW8
      go_wp2_with (first
       | (at_builtin; refine app_it_at _ rfl _ _ rfl w.heap.size u13 (zs) rfl (by rw [← HW8.out]; exact HT8.out.row) ⟨wr.heap.size, 0, none⟩ 1 zn rfl (by rw [← HW8.out]; exact HN8.out) HZ8.out (by rw [← HW8.out]; exact HT8.out.be.size) ?_; intro v9 w9 hr9 hg9 hb9; refine Hid.out ?_)
       | go_in)
      refine Lib.hid ?_
      rw [← HW8.out] at hg9 hb9
      have HO9 : Hid (OtR w W7 g0 w9 v9 (zs ++ [zn])) := HT8.out.app hr9 hg9 hb9
      clear hr9 hg9 hb9
      have HV : Hid (RdVc w9 v9 (addL ps p fr t)) := HFV.out _ v9 w9 HO9.out (HAZ.out zs zn HZZ.out (.inr rfl)) HM2.out
      go_wp2
      go_ret2
      exact ⟨⟨_, by rw [HE.out.1]; first | done | rfl, HV.out⟩, HO9.out.be⟩
end Go.Proofs.YtcpmgellfaeejaaGreatDoor.so
