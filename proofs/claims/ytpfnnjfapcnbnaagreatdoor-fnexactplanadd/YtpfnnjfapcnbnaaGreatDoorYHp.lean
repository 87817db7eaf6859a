import Derived.Test.YtpfnnjfapcnbnaaGreatDoorYGp
import Derived.Test.YtpfnnjfapcnbnaaGreatDoorYEp
set_option linter.unusedVariables false
set_option linter.unusedSimpArgs false
set_option maxRecDepth 100000
set_option maxHeartbeats 16000000
namespace Go.Proofs.YtpfnnjfapcnbnaaGreatDoor.ty
open Go.ChangeShapes Go.WideShapes Go.ChangeAt Go.RowKit Go.Deep
def mk1Wr (k : Nat) (x : Wr) : Wr := ⟨((k : Nat) : Int), sr.mark (k + 1), sr.mark (k + 2), mkEt (k + 3) x.fTree, sr.mark ((k + 3 + cnEt x.fTree)), (((k + 3 + cnEt x.fTree) + 1 : Nat) : Int)⟩
def mkWr (k : Nat) (l : List Wr) : List Wr := l.mapIdx fun i x => mk1Wr (k + cnkWr l i) x
theorem mkWr_len (k : Nat) (l : List Wr) : (mkWr k l).length = l.length := by simp [mkWr]
theorem mkWr_at {k : Nat} {l : List Wr} {i : Nat} {x : Wr} (h : l[i]? = some x) : (mkWr k l)[i]? = some (mk1Wr (k + cnkWr l i) x) := by simp [mkWr, h]
theorem mkWr_of {k : Nat} {l : List Wr} {i : Nat} {y : Wr} (h : (mkWr k l)[i]? = some y) : ∃ x, l[i]? = some x ∧ y = mk1Wr (k + cnkWr l i) x := by
 have hi := (List.getElem?_eq_some_iff.1 h).1
 rw [mkWr_len] at hi
 have hx := List.getElem?_eq_getElem hi
 rw [mkWr_at hx] at h
 exact ⟨_, hx, (Option.some.inj h).symm⟩
def E1Wr (lo hi : Nat) (w : World) (g : Nat → Value) (x : Wr) : Prop := ∃ a3 c3 s3 e3, g 0 = .int .i64 x.fKind ∧ g 1 = .string x.fName ∧ g 2 = .string x.fPath ∧ g 3 = .slice a3 x.fTree.length c3 ∧ g 4 = .string x.fFrom ∧ g 5 = .int .i64 x.fN ∧ (GEt s3 e3 w a3 x.fTree ∧ lo ≤ s3 ∧ e3 ≤ hi)
theorem E1Wr.kept {lo hi : Nat} {w w' : World} {g g' : Nat → Value} {x : Wr} (h : E1Wr lo hi w g x) (hg : ∀ r, r < 6 → g' r = g r) (hk : ∀ p, lo ≤ p → p < hi → w'.heap[p]? = w.heap[p]?) : E1Wr lo hi w' g' x := by
 obtain ⟨a3, c3, s3, e3, q0, q1, q2, q3, q4, q5, ⟨G3, b3, t3⟩⟩ := h
 exact ⟨a3, c3, s3, e3, (hg 0 (by omega)).trans q0, (hg 1 (by omega)).trans q1, (hg 2 (by omega)).trans q2, (hg 3 (by omega)).trans q3, (hg 4 (by omega)).trans q4, (hg 5 (by omega)).trans q5, ⟨G3.kept (fun p h1 h2 => hk p (by omega) (by omega)), b3, t3⟩⟩
def GWr (lo hi : Nat) (w : World) (a : Option Addr) (l : List Wr) : Prop := ∃ b o t N f, ∃ s e : Nat → Nat, a = some ⟨b, o, none⟩ ∧ lo ≤ b ∧ b < hi ∧ w.rowIs b t N f ∧ o + l.length * 6 ≤ N ∧ (∀ (i : Nat) (x : Wr), l[i]? = some x → lo ≤ s i ∧ e i ≤ hi ∧ (b < s i ∨ e i ≤ b) ∧ E1Wr (s i) (e i) w (fun r => f (o + i * 6 + r)) x) ∧ (∀ i j, i < j → j < l.length → e i ≤ s j ∨ e j ≤ s i)
theorem GWr.kept {lo hi : Nat} {w w' : World} {a : Option Addr} {l : List Wr} (h : GWr lo hi w a l) (hk : ∀ p, lo ≤ p → p < hi → w'.heap[p]? = w.heap[p]?) : GWr lo hi w' a l := by
 obtain ⟨b, o, t, N, f, s, e, h0, h1, h2, h3, h4, h5, h6⟩ := h
 exact ⟨b, o, t, N, f, s, e, h0, h1, h2, h3.of_block (hk b h1 h2), h4, fun i x hx => by
  obtain ⟨k1, k2, k3, k4⟩ := h5 i x hx
  exact ⟨k1, k2, k3, k4.kept (fun _ _ => rfl) fun p g1 g2 => hk p (by omega) (by omega)⟩, h6⟩
theorem GWr.wide {lo hi lo' hi' : Nat} {w : World} {a : Option Addr} {l : List Wr} (h : GWr lo hi w a l) (g1 : lo' ≤ lo) (g2 : hi ≤ hi') : GWr lo' hi' w a l := by
 obtain ⟨b, o, t, N, f, s, e, h0, h1, h2, h3, h4, h5, h6⟩ := h
 exact ⟨b, o, t, N, f, s, e, h0, by omega, by omega, h3, h4, fun i x hx => by
  obtain ⟨k1, k2, k3, k4⟩ := h5 i x hx
  exact ⟨by omega, by omega, k3, k4⟩, h6⟩
theorem GWr.src {lo hi : Nat} {w : World} {a : Option Addr} {l : List Wr} (h : GWr lo hi w a l) : SrcWr none w a l := by
 obtain ⟨b, o, t, N, f, s, e, h0, h1, h2, h3, h4, h5, h6⟩ := h
 refine .inr ⟨b, o, h0, Okb.free _ _, fun i x hx => ?_⟩
 have hi := (List.getElem?_eq_some_iff.1 hx).1
 obtain ⟨k1, k2, k3, k4⟩ := h5 i x hx
 obtain ⟨a3, c3, s3, e3, q0, q1, q2, q3, q4, q5, ⟨G3, b3, t3⟩⟩ := k4
 exact ⟨a3, c3, (h3.cell (i := o + i * 6) (by omega)).trans (congrArg some q0), (h3.cell (i := o + i * 6 + 1) (by omega)).trans (congrArg some q1), (h3.cell (i := o + i * 6 + 2) (by omega)).trans (congrArg some q2), (h3.cell (i := o + i * 6 + 3) (by omega)).trans (congrArg some q3), (h3.cell (i := o + i * 6 + 4) (by omega)).trans (congrArg some q4), (h3.cell (i := o + i * 6 + 5) (by omega)).trans (congrArg some q5), G3.src, (fun lo h => by cases h)⟩
theorem markGWr_any (lo hi : Nat) (a : Option Addr) (c : Nat) (l : List Wr) (k0 : Nat) (w : World) (hG : GWr lo hi w a l) (hhi : hi ≤ w.heap.size) (h0 : 0 < k0) (hk : k0 + cnWr l ≤ 100000000) :
  Calls Tryz.prog 26 #[.slice a l.length c, .int .i64 (k0 : Int)] w fun e w' => e = .returned (.int .i64 ((k0 + cnWr l : Nat) : Int)) ∧ GWr lo hi w' a (mkWr k0 l) ∧ Md lo hi w w' := by
 obtain ⟨b, o, t, N, f0, s, e, rfl, hl, hh, hrow, hN, hel, hdis⟩ := hG
 have HRZ : Hid (w.rowIs b t N f0) := hrow
 have HEZ := Lib.hid hel
 have HDI := Lib.hid hdis
 have HCL := Lib.hid (cnkWr_le l)
 have HKL : Hid (k0 + cnWr l ≤ 100000000) := hk
 clear hrow hel hdis hk
 obtain ⟨n, hn⟩ : ∃ n, l.length = n := ⟨_, rfl⟩
 have HN : Hid (l.length = n) := hn
 have hn9 : n ≤ 100000000 := by have h1 := cnWr_len l; have h2 := HKL.out; omega
 rw [hn] at hN ⊢
 clear hn
 go_enter Tryz.func26, Tryz.ntmps26
 go_wp2
 go_loopw [1, 5] (fun a x wr => ∃ (i : Nat) (f : Nat → Value), i ≤ n ∧ x = .int .i64 (i : Int) ∧ a = .int .i64 ((k0 + cnkWr l i : Nat) : Int) ∧ wr.rowIs b t N f ∧ (∀ (j : Nat) (y : Wr), l[j]? = some y → E1Wr (s j) (e j) wr (fun r => f (o + j * 6 + r)) (if j < i then mk1Wr (k0 + cnkWr l j) y else y)) ∧ Md lo hi w wr) (fun _ x _ => n - (intOf x).toNat)
 case atStart => exact ⟨0, f0, Nat.zero_le _, rfl, by simp [cnkWr], HRZ.out, fun j y hy => (HEZ.out j y hy).2.2.2, Md.refl _ _ _⟩
 case round =>
  obtain ⟨i, f, hi', rfl, rfl, hrow, hel, hmd⟩ := hrel
  have HRW : Hid (wr.rowIs b t N f) := hrow
  have HEL := Lib.hid hel
  have HMD : Hid (Md lo hi w wr) := hmd
  have hhr : hi ≤ wr.heap.size := by have := hmd.2.1; omega
  clear hrow hel hmd
  by_cases h : i < n
  ·have h' : (i : Int) < (n : Int) := by omega
   have hi0 : (0 : Int) ≤ (i : Int) := by omega
   obtain ⟨x, hx⟩ : ∃ x, l[i]? = some x := ⟨_, List.getElem?_eq_getElem (by rw [HN.out]; exact h)⟩
   have HX : Hid (l[i]? = some x) := hx
   have HSU := Lib.hid (cnkWr_succ hx)
   obtain ⟨hs1, hs2, hs3, _⟩ := HEZ.out i x hx
   have hE := HEL.out i x hx
   rw [if_neg (Nat.lt_irrefl i)] at hE
   obtain ⟨a3, c3, s3, e3, q0, q1, q2, q3, q4, q5, ⟨G3, b3, t3⟩⟩ := hE
   have q0 : f (o + i * 6 + 0) = .int .i64 x.fKind := q0
   have q1 : f (o + i * 6 + 1) = .string x.fName := q1
   have q2 : f (o + i * 6 + 2) = .string x.fPath := q2
   have q3 : f (o + i * 6 + 3) = .slice a3 x.fTree.length c3 := q3
   have q4 : f (o + i * 6 + 4) = .string x.fFrom := q4
   have q5 : f (o + i * 6 + 5) = .int .i64 x.fN := q5
   have HG3_0 : Hid (GEt s3 e3 wr a3 x.fTree) := G3
   have HF0 : Hid (Fr b (s i) (e i) wr wr) := Fr.refl _ _ _ _
   obtain ⟨K0, hK0⟩ : ∃ K : Nat, k0 + cnkWr l i = K := ⟨_, rfl⟩
   have HKK : Hid (k0 + cnkWr l i = K0) := hK0
   have HCB : Hid (K0 + cn1Wr x ≤ 100000000) := by
    show _ ≤ _
    have h1 := HCL.out (i + 1)
    have h2 := HKL.out
    have h3 := HSU.out
    omega
   have hK0b : K0 ≤ 100000000 := by have := HCB.out; omega
   have hK0c : K0 + 5 ≤ 100000000 := by have h9 := HCB.out; unfold cn1Wr at h9; omega
   have hK0p : 0 < K0 := by omega
   rw [hK0]
   clear hK0 hx
   have g0 := HRW.out.cell (i := o + i * 6) (by omega)
   have z0 := HRW.out.frozen (o + i * 6)
   have HR1 : Hid ((wr.setCell ⟨b, o + i * 6, none⟩ (.int .i64 ((K0 : Int)))).rowIs b t N (up (f) (o + i * 6) (.int .i64 ((K0 : Int))))) := row_up HRW.out _ _
   have HF1 : Hid (Fr b (s i) (e i) wr (wr.setCell ⟨b, o + i * 6, none⟩ (.int .i64 ((K0 : Int))))) := HF0.out.set _ _
   have HM1 : Hid (∀ W, Calls Tryz.prog 62 #[.int .i64 ((K0 : Int) + 1)] W fun e w' => e = .returned (.string (sr.mark (K0 + 1))) ∧ Below W.heap.size W w') := fun W => by
    have := sr.mark_any (K0 + 1) (by omega) (by omega) W
    rwa [show ((K0 + 1 : Nat) : Int) = (K0 : Int) + 1 by omega] at this
   obtain ⟨y1, hy1⟩ : ∃ y, sr.mark (K0 + 1) = y := ⟨_, rfl⟩
   have HY1 : Hid (sr.mark (K0 + 1) = y1) := hy1
   rw [hy1] at HM1
   clear hy1
   go_wp2_with (go_at_call 62; refine (HM1.out _).mono ?_; rintro e w1 ⟨rfl, hb⟩; refine Hid.out ?_)
   refine Lib.hid ?_
   have HR2 : Hid (w1.rowIs b t N (up (f) (o + i * 6) (.int .i64 ((K0 : Int))))) := HR1.out.of_block (hb.block b HR1.out.lt)
   have HF2 : Hid (Fr b (s i) (e i) wr w1) := HF1.out.below hb
   have HG3_2 : Hid (GEt s3 e3 w1 a3 (x.fTree)) := HG3_0.out.kept (kp_below (b := b) (s := s3) (e := e3) (cur := wr) (fun p hp => (sb hp).trans (rfl)) (by simp) hb (by have := HF0.out.2.1; omega) (by omega))
   clear hb HM1 g0 z0
   have g1 := HR2.out.cell (i := o + i * 6 + 1) (by omega)
   have z1 := HR2.out.frozen (o + i * 6 + 1)
   have HR3 : Hid ((w1.setCell ⟨b, o + i * 6 + 1, none⟩ (.string y1)).rowIs b t N (up (up (f) (o + i * 6) (.int .i64 ((K0 : Int)))) (o + i * 6 + 1) (.string y1))) := row_up HR2.out _ _
   have HF3 : Hid (Fr b (s i) (e i) wr (w1.setCell ⟨b, o + i * 6 + 1, none⟩ (.string y1))) := HF2.out.set _ _
   have HM2 : Hid (∀ W, Calls Tryz.prog 62 #[.int .i64 ((K0 : Int) + 1 + 1)] W fun e w' => e = .returned (.string (sr.mark (K0 + 2))) ∧ Below W.heap.size W w') := fun W => by
    have := sr.mark_any (K0 + 2) (by omega) (by omega) W
    rwa [show ((K0 + 2 : Nat) : Int) = (K0 : Int) + 1 + 1 by omega] at this
   obtain ⟨y2, hy2⟩ : ∃ y, sr.mark (K0 + 2) = y := ⟨_, rfl⟩
   have HY2 : Hid (sr.mark (K0 + 2) = y2) := hy2
   rw [hy2] at HM2
   clear hy2
   go_wp2_with (go_at_call 62; refine (HM2.out _).mono ?_; rintro e w2 ⟨rfl, hb⟩; refine Hid.out ?_)
   refine Lib.hid ?_
   have HR4 : Hid (w2.rowIs b t N (up (up (f) (o + i * 6) (.int .i64 ((K0 : Int)))) (o + i * 6 + 1) (.string y1))) := HR3.out.of_block (hb.block b HR3.out.lt)
   have HF4 : Hid (Fr b (s i) (e i) wr w2) := HF3.out.below hb
   have HG3_4 : Hid (GEt s3 e3 w2 a3 (x.fTree)) := HG3_2.out.kept (kp_below (b := b) (s := s3) (e := e3) (cur := w1) (fun p hp => (sb hp).trans (rfl)) (by simp) hb (by have := HF2.out.2.1; omega) (by omega))
   clear hb HM2 g1 z1
   have g2 := HR4.out.cell (i := o + i * 6 + 2) (by omega)
   have z2 := HR4.out.frozen (o + i * 6 + 2)
   have HR5 : Hid ((w2.setCell ⟨b, o + i * 6 + 2, none⟩ (.string y2)).rowIs b t N (up (up (up (f) (o + i * 6) (.int .i64 ((K0 : Int)))) (o + i * 6 + 1) (.string y1)) (o + i * 6 + 2) (.string y2))) := row_up HR4.out _ _
   have HF5 : Hid (Fr b (s i) (e i) wr (w2.setCell ⟨b, o + i * 6 + 2, none⟩ (.string y2))) := HF4.out.set _ _
   have HM3 : Hid (∀ W, GEt s3 e3 W a3 x.fTree → e3 ≤ W.heap.size → Calls Tryz.prog 20 #[.slice a3 x.fTree.length c3, .int .i64 ((K0 : Int) + 1 + 1 + 1)] W fun e w' => e = .returned (.int .i64 ((K0 + 3 + cnEt x.fTree : Nat) : Int)) ∧ GEt s3 e3 w' a3 (mkEt (K0 + 3) x.fTree) ∧ Md s3 e3 W w') := fun W h hz => by
    have := markGEt_any s3 e3 a3 c3 x.fTree (K0 + 3) W h hz (by omega) (by have h9 := HCB.out;  unfold cn1Wr at h9; omega)
    rwa [show ((K0 + 3 : Nat) : Int) = (K0 : Int) + 1 + 1 + 1 by omega] at this
   have g3 := HR4.out.cell (i := o + i * 6 + 3) (by omega)
   rw [show _ = Value.slice a3 x.fTree.length c3 from (up_oth (by omega)).trans ((up_oth (by omega)).trans (q3))] at g3
   obtain ⟨z3, hz3⟩ : ∃ z, x.fTree.length = z := ⟨_, rfl⟩
   obtain ⟨K4, hK4⟩ : ∃ z : Nat, K0 + 3 + cnEt x.fTree = z := ⟨_, rfl⟩
   have HK4 := Lib.hid hK4
   have hKb4 : K4 ≤ 100000000 ∧ 0 < K4 := ⟨by have h9 := HCB.out;  unfold cn1Wr at h9; omega, by omega⟩
   have HZ3 : Hid (x.fTree.length = z3) := hz3
   rw [hK4, hz3] at HM3
   rw [hz3] at g3
   clear hK4 hz3
   have HGX3 : Hid (GEt s3 e3 (w2.setCell ⟨b, o + i * 6 + 2, none⟩ (.string y2)) a3 x.fTree) := HG3_4.out.kept (fun p h1 h2 => (fun p hp => (sb hp).trans (rfl)) p (by omega))
   have HZX3 : Hid (e3 ≤ ((w2.setCell ⟨b, o + i * 6 + 2, none⟩ (.string y2))).heap.size) := by have h9 := HF5.out.2.1; show _ ≤ _; omega
   go_wp2_with (go_at_call 20; refine (HM3.out _ HGX3.out HZX3.out).mono ?_; rintro e w3 ⟨rfl, hgn, hb⟩; refine Hid.out ?_)
   refine Lib.hid ?_
   have HGN3 := Lib.hid hgn
   have HR7 : Hid (w3.rowIs b t N (up (up (up (f) (o + i * 6) (.int .i64 ((K0 : Int)))) (o + i * 6 + 1) (.string y1)) (o + i * 6 + 2) (.string y2))) := HR5.out.of_block (hb.2.2 b HR5.out.lt (by omega))
   have HF7 : Hid (Fr b (s i) (e i) wr w3) := HF5.out.md hb (by omega) (by omega)
   clear hb hgn HM3 g3 g2 z2
   have HM4 : Hid (∀ W, Calls Tryz.prog 62 #[.int .i64 ((K4 : Int))] W fun e w' => e = .returned (.string (sr.mark (K4))) ∧ Below W.heap.size W w') := fun W => by
    have := sr.mark_any (K4) (by omega) (by omega) W
    rwa [show ((K4 : Nat) : Int) = (K4 : Int) by omega] at this
   obtain ⟨y4, hy4⟩ : ∃ y, sr.mark (K4) = y := ⟨_, rfl⟩
   have HY4 : Hid (sr.mark (K4) = y4) := hy4
   rw [hy4] at HM4
   clear hy4
   go_wp2_with (go_at_call 62; refine (HM4.out _).mono ?_; rintro e w4 ⟨rfl, hb⟩; refine Hid.out ?_)
   refine Lib.hid ?_
   have HR8 : Hid (w4.rowIs b t N (up (up (up (f) (o + i * 6) (.int .i64 ((K0 : Int)))) (o + i * 6 + 1) (.string y1)) (o + i * 6 + 2) (.string y2))) := HR7.out.of_block (hb.block b HR7.out.lt)
   have HF8 : Hid (Fr b (s i) (e i) wr w4) := HF7.out.below hb
   have HG3_8 : Hid (GEt s3 e3 w4 a3 (mkEt (K0 + 3) x.fTree)) := HGN3.out.kept (kp_below (b := b) (s := s3) (e := e3) (cur := w3) (fun p hp => rfl) (Nat.le_refl _) hb (by have := HF7.out.2.1; omega) (by omega))
   clear hb HM4 
   have g4 := HR8.out.cell (i := o + i * 6 + 4) (by omega)
   have z4 := HR8.out.frozen (o + i * 6 + 4)
   have HR9 : Hid ((w4.setCell ⟨b, o + i * 6 + 4, none⟩ (.string y4)).rowIs b t N (up (up (up (up (f) (o + i * 6) (.int .i64 ((K0 : Int)))) (o + i * 6 + 1) (.string y1)) (o + i * 6 + 2) (.string y2)) (o + i * 6 + 4) (.string y4))) := row_up HR8.out _ _
   have HF9 : Hid (Fr b (s i) (e i) wr (w4.setCell ⟨b, o + i * 6 + 4, none⟩ (.string y4))) := HF8.out.set _ _
   have g5 := HR8.out.cell (i := o + i * 6 + 5) (by omega)
   have z5 := HR8.out.frozen (o + i * 6 + 5)
   have HR10 : Hid (((w4.setCell ⟨b, o + i * 6 + 4, none⟩ (.string y4)).setCell ⟨b, o + i * 6 + 5, none⟩ (.int .i64 ((K4 : Int) + 1))).rowIs b t N (up (up (up (up (up (f) (o + i * 6) (.int .i64 ((K0 : Int)))) (o + i * 6 + 1) (.string y1)) (o + i * 6 + 2) (.string y2)) (o + i * 6 + 4) (.string y4)) (o + i * 6 + 5) (.int .i64 ((K4 : Int) + 1)))) := row_up HR9.out _ _
   have HF10 : Hid (Fr b (s i) (e i) wr ((w4.setCell ⟨b, o + i * 6 + 4, none⟩ (.string y4)).setCell ⟨b, o + i * 6 + 5, none⟩ (.int .i64 ((K4 : Int) + 1)))) := HF9.out.set _ _
   have HEN : Hid (E1Wr (s i) (e i) ((w4.setCell ⟨b, o + i * 6 + 4, none⟩ (.string y4)).setCell ⟨b, o + i * 6 + 5, none⟩ (.int .i64 ((K4 : Int) + 1))) (fun r => (up (up (up (up (up (f) (o + i * 6) (.int .i64 ((K0 : Int)))) (o + i * 6 + 1) (.string y1)) (o + i * 6 + 2) (.string y2)) (o + i * 6 + 4) (.string y4)) (o + i * 6 + 5) (.int .i64 ((K4 : Int) + 1))) (o + i * 6 + r)) (mk1Wr K0 x)) := ⟨a3, c3, s3, e3, (by show (up (up (up (up (up (f) (o + i * 6) (.int .i64 ((K0 : Int)))) (o + i * 6 + 1) (.string y1)) (o + i * 6 + 2) (.string y2)) (o + i * 6 + 4) (.string y4)) (o + i * 6 + 5) (.int .i64 ((K4 : Int) + 1))) (o + i * 6 + 0) = .int .i64 (((K0 : Nat)) : Int); exact (up_oth (by omega)).trans ((up_oth (by omega)).trans ((up_oth (by omega)).trans ((up_oth (by omega)).trans ((up_at (by omega)).trans (congrArg (Value.int .i64) (by  omega))))))), (by show (up (up (up (up (up (f) (o + i * 6) (.int .i64 ((K0 : Int)))) (o + i * 6 + 1) (.string y1)) (o + i * 6 + 2) (.string y2)) (o + i * 6 + 4) (.string y4)) (o + i * 6 + 5) (.int .i64 ((K4 : Int) + 1))) (o + i * 6 + 1) = .string (sr.mark (K0 + 1)); exact (up_oth (by omega)).trans ((up_oth (by omega)).trans ((up_oth (by omega)).trans ((up_at (by omega)).trans (congrArg Value.string (HY1.out.symm.trans (congrArg sr.mark (by  omega)))))))), (by show (up (up (up (up (up (f) (o + i * 6) (.int .i64 ((K0 : Int)))) (o + i * 6 + 1) (.string y1)) (o + i * 6 + 2) (.string y2)) (o + i * 6 + 4) (.string y4)) (o + i * 6 + 5) (.int .i64 ((K4 : Int) + 1))) (o + i * 6 + 2) = .string (sr.mark (K0 + 2)); exact (up_oth (by omega)).trans ((up_oth (by omega)).trans ((up_at (by omega)).trans (congrArg Value.string (HY2.out.symm.trans (congrArg sr.mark (by  omega))))))), (by show (up (up (up (up (up (f) (o + i * 6) (.int .i64 ((K0 : Int)))) (o + i * 6 + 1) (.string y1)) (o + i * 6 + 2) (.string y2)) (o + i * 6 + 4) (.string y4)) (o + i * 6 + 5) (.int .i64 ((K4 : Int) + 1))) (o + i * 6 + 3) = .slice a3 (mkEt (K0 + 3) x.fTree).length c3; rw [mkEt_len]; exact (up_oth (by omega)).trans ((up_oth (by omega)).trans ((up_oth (by omega)).trans ((up_oth (by omega)).trans ((up_oth (by omega)).trans (q3)))))), (by show (up (up (up (up (up (f) (o + i * 6) (.int .i64 ((K0 : Int)))) (o + i * 6 + 1) (.string y1)) (o + i * 6 + 2) (.string y2)) (o + i * 6 + 4) (.string y4)) (o + i * 6 + 5) (.int .i64 ((K4 : Int) + 1))) (o + i * 6 + 4) = .string (sr.mark ((K0 + 3 + cnEt x.fTree))); exact (up_oth (by omega)).trans ((up_at (by omega)).trans (congrArg Value.string (HY4.out.symm.trans (congrArg sr.mark (by have := HK4.out; omega)))))), (by show (up (up (up (up (up (f) (o + i * 6) (.int .i64 ((K0 : Int)))) (o + i * 6 + 1) (.string y1)) (o + i * 6 + 2) (.string y2)) (o + i * 6 + 4) (.string y4)) (o + i * 6 + 5) (.int .i64 ((K4 : Int) + 1))) (o + i * 6 + 5) = .int .i64 ((((K0 + 3 + cnEt x.fTree) + 1 : Nat)) : Int); exact (up_at (by omega)).trans (congrArg (Value.int .i64) (by have := HK4.out; omega))), ⟨by have h9 := HG3_8.out; rw [show K0 + 3 = K0 + 3 by  omega] at h9; exact h9.kept (fun p h1 h2 => (fun p hp => (sb hp).trans ((sb hp).trans (rfl))) p (by omega)), b3, t3⟩⟩
   have HEA : Hid (∀ (j : Nat) (y : Wr), l[j]? = some y → E1Wr (s j) (e j) ((w4.setCell ⟨b, o + i * 6 + 4, none⟩ (.string y4)).setCell ⟨b, o + i * 6 + 5, none⟩ (.int .i64 ((K4 : Int) + 1))) (fun r => (up (up (up (up (up (f) (o + i * 6) (.int .i64 ((K0 : Int)))) (o + i * 6 + 1) (.string y1)) (o + i * 6 + 2) (.string y2)) (o + i * 6 + 4) (.string y4)) (o + i * 6 + 5) (.int .i64 ((K4 : Int) + 1))) (o + j * 6 + r)) (if j < i + 1 then mk1Wr (k0 + cnkWr l j) y else y)) := fun j y hy => by
    by_cases hji : j = i
    ·subst hji
     have hxy : x = y := Option.some.inj (HX.out.symm.trans hy)
     rw [if_pos (by omega), HKK.out, ← hxy]
     exact HEN.out
    ·have hold := HEL.out j y hy
     rw [show (if j < i + 1 then mk1Wr (k0 + cnkWr l j) y else y) = (if j < i then mk1Wr (k0 + cnkWr l j) y else y) by by_cases hj2 : j < i <;> simp [hj2] <;> omega]
     have hjl := (List.getElem?_eq_some_iff.1 hy).1
     have hil : i < l.length := by rw [HN.out]; exact h
     obtain ⟨u1, u2, u3, _⟩ := HEZ.out j y hy
     have hdj : e i ≤ s j ∨ e j ≤ s i := by
      rcases Nat.lt_or_ge j i with h9 | h9
      ·exact (HDI.out j i h9 hil).symm
      ·exact HDI.out i j (by omega) hjl
     exact hold.kept (fun r hr => (by show (up (up (up (up (up (f) (o + i * 6) (.int .i64 ((K0 : Int)))) (o + i * 6 + 1) (.string y1)) (o + i * 6 + 2) (.string y2)) (o + i * 6 + 4) (.string y4)) (o + i * 6 + 5) (.int .i64 ((K4 : Int) + 1))) (o + j * 6 + r) = f (o + j * 6 + r); exact (up_oth (by omega)).trans ((up_oth (by omega)).trans ((up_oth (by omega)).trans ((up_oth (by omega)).trans ((up_oth (by omega)).trans (rfl))))))) (fun p p1 p2 => HF10.out.2.2 p (by omega) (by omega) (by omega))
   have HME : Hid (Md lo hi w ((w4.setCell ⟨b, o + i * 6 + 4, none⟩ (.string y4)).setCell ⟨b, o + i * 6 + 5, none⟩ (.int .i64 ((K4 : Int) + 1)))) := HMD.out.trans (HF10.out.to hl hh hs1 hs2)
   clear q0 q1 q2 q3 q4 q5
   go_wp2
   go_roundw
   case rel => exact ⟨i + 1, _, by omega, by go_num, by (rw [HSU.out]; unfold cn1Wr; have := HK4.out; have := HKK.out; go_num), HR10.out, HEA.out, HME.out⟩
   case measure => simp [intOf]; omega
  ·have h' : ¬ (i : Int) < (n : Int) := by omega
   obtain rfl : i = n := by omega
   have HE : Hid (cnkWr l i = cnWr l) := by show _ = _; unfold cnWr; rw [HN.out]
   rw [HE.out]
   have HGE : Hid (GWr lo hi wr (some ⟨b, o, none⟩) (mkWr k0 l)) := ⟨b, o, t, N, f, s, e, rfl, hl, hh, HRW.out, by rw [mkWr_len, HN.out]; exact hN, fun j y hy => by
    obtain ⟨x, hx, rfl⟩ := mkWr_of hy
    obtain ⟨u1, u2, u3, _⟩ := HEZ.out j x hx
    have := HEL.out j x hx
    rw [if_pos (by have := (List.getElem?_eq_some_iff.1 hx).1; have := HN.out; omega)] at this
    exact ⟨u1, u2, u3, this⟩, fun p q h1 h2 => HDI.out p q h1 (by rw [mkWr_len] at h2; exact h2)⟩
   go_wp2
   go_ret
   exact ⟨rfl, HGE.out, HMD.out⟩
theorem heldWr_any (a : Option Addr) (c : Nat) (l : List Wr) (k0 : Nat) (w : World) (hR : SrcWr none w a (mkWr k0 l)) (h0 : 0 < k0) (hk : k0 + cnWr l ≤ 100000000) :
  Calls Tryz.prog 27 #[.slice a l.length c, .int .i64 (k0 : Int)] w fun e w' => e = .returned (.int .i64 ((k0 + cnWr l : Nat) : Int)) ∧ Below w.heap.size w w' := by
 have HER := Lib.hid hR
 have HCL := Lib.hid (cnkWr_le l)
 have HKL : Hid (k0 + cnWr l ≤ 100000000) := hk
 obtain ⟨n, hn⟩ : ∃ n, l.length = n := ⟨_, rfl⟩
 have HNN : Hid (l.length = n) := hn
 have hn9 : n ≤ 100000000 := by have h1 := cnWr_len l; have h2 := HKL.out; omega
 rw [hn]
 clear hR hn hk
 go_enter Tryz.func27, Tryz.ntmps27
 go_wp2
 go_loopw [1, 5] (fun v x wr => ∃ (i : Nat), i ≤ n ∧ x = .int .i64 (i : Int) ∧ v = .int .i64 ((k0 + cnkWr l i : Nat) : Int) ∧ Below w.heap.size w wr) (fun _ x _ => n - (intOf x).toNat)
 case atStart => exact ⟨0, Nat.zero_le _, rfl, by simp [cnkWr], Below.refl _ _⟩
 case round =>
  obtain ⟨i, hi, rfl, rfl, hbel⟩ := hrel
  have HBB : Hid (Below w.heap.size w wr) := hbel
  clear hbel
  by_cases h : i < n
  ·have h' : (i : Int) < (n : Int) := by omega
   have hi0 : (0 : Int) ≤ (i : Int) := by omega
   obtain ⟨x, hx⟩ : ∃ x, l[i]? = some x := ⟨_, List.getElem?_eq_getElem (by rw [HNN.out]; exact h)⟩
   have HX : Hid (l[i]? = some x) := hx
   have HSU := Lib.hid (cnkWr_succ hx)
   rcases HER.out with he | ⟨b, o, rfl, _, hc⟩
   ·have := congrArg List.length he.2; rw [mkWr_len, HNN.out] at this; simp at this; omega
   have hcx := hc i _ (mkWr_at hx)
   obtain ⟨K0, hK0⟩ : ∃ K : Nat, k0 + cnkWr l i = K := ⟨_, rfl⟩
   rw [hK0] at hcx
   have HKK : Hid (k0 + cnkWr l i = K0) := hK0
   have HCB : Hid (K0 + cn1Wr x ≤ 100000000) := by
    show _ ≤ _
    have h1 := HCL.out (i + 1)
    have h2 := HKL.out
    have h3 := HSU.out
    omega
   have hK0b : K0 ≤ 100000000 := by have := HCB.out; omega
   have hK0c : K0 + 5 ≤ 100000000 := by have h9 := HCB.out; unfold cn1Wr at h9; omega
   have hK0p : 0 < K0 := by omega
   rw [hK0]
   obtain ⟨a3, c3, e0, e1, e2, e3, e4, e5, r3, _⟩ := hcx
   have HC : Hid (∀ W, Below w.heap.size w W → W.cell? ⟨b, o + i * 6, none⟩ = some (.int .i64 (((K0 : Nat)) : Int)) ∧ W.cell? ⟨b, o + i * 6 + 1, none⟩ = some (.string (sr.mark (K0 + 1))) ∧ W.cell? ⟨b, o + i * 6 + 2, none⟩ = some (.string (sr.mark (K0 + 2))) ∧ W.cell? ⟨b, o + i * 6 + 3, none⟩ = some (.slice a3 x.fTree.length c3) ∧ W.cell? ⟨b, o + i * 6 + 4, none⟩ = some (.string (sr.mark ((K0 + 3 + cnEt x.fTree)))) ∧ W.cell? ⟨b, o + i * 6 + 5, none⟩ = some (.int .i64 ((((K0 + 3 + cnEt x.fTree) + 1 : Nat)) : Int))) := fun W hW => by
    have kk : ∀ {p v}, w.cell? ⟨b, p, none⟩ = some v → W.cell? ⟨b, p, none⟩ = some v := fun {p v} h => (hW.cell (p := ⟨b, p, none⟩) (World.block_lt_of_cell? _ _ h)).trans h
    exact ⟨kk e0, kk e1, kk e2, (kk e3).trans (by show some (Value.slice a3 (mkEt _ _).length c3) = _; rw [mkEt_len]), kk e4, kk e5⟩
   have HS3 : Hid (∀ W, Below w.heap.size w W → SrcEt none W a3 (mkEt (K0 + 3) x.fTree)) := fun W hW => r3.below hW
   obtain ⟨y1, hy1⟩ : ∃ y, sr.mark (K0 + 1) = y := ⟨_, rfl⟩
   have HY1 : Hid (sr.mark (K0 + 1) = y1) := hy1
   rw [hy1] at HC
   clear hy1
   obtain ⟨y2, hy2⟩ : ∃ y, sr.mark (K0 + 2) = y := ⟨_, rfl⟩
   have HY2 : Hid (sr.mark (K0 + 2) = y2) := hy2
   rw [hy2] at HC
   clear hy2
   obtain ⟨y4, hy4⟩ : ∃ y, sr.mark ((K0 + 3 + cnEt x.fTree)) = y := ⟨_, rfl⟩
   have HY4 := Lib.hid hy4
   rw [hy4] at HC
   clear hy4
   clear hK0 hx hc e0 e1 e2 e3 e4 e5 r3
   have dd0 : wr.cell? ⟨b, o + i * 6, none⟩ = some (.int .i64 ((K0 : Int))) := by have := (HC.out wr HBB.out).1; rwa [show ((K0 : Nat) : Int) = (K0 : Int) by  omega] at this
   have HM1 : Hid (∀ W, Calls Tryz.prog 62 #[.int .i64 ((K0 : Int) + 1)] W fun e w' => e = .returned (.string y1) ∧ Below W.heap.size W w') := fun W => by
    have := sr.mark_any (K0 + 1) (by omega) (by omega) W
    rw [show ((K0 + 1 : Nat) : Int) = (K0 : Int) + 1 by omega] at this
    rwa [show sr.mark (K0 + 1) = y1 from (congrArg sr.mark (by  omega)).trans HY1.out] at this
   have HCd1 : Hid (∀ W, Below w.heap.size w W → W.cell? ⟨b, o + i * 6 + 1, none⟩ = some (.string y1)) := fun W hW => (HC.out W hW).2.1
   have dd1 := HCd1.out wr HBB.out
   go_wp2_with fail
   go_region_held3 (fun w' => w'.cell? ⟨b, o + i * 6 + 1, none⟩ = some (.string y1))
    (first | go_keep | exact HCd1.out _ (HBB.out.drew.trans (hb1.mono HBB.out.size)))
    (first | ((go_at_call 62; refine (HM1.out _).mono ?_; rintro e w1 ⟨rfl, hb1⟩)))
   have HB1 : Hid (Below w.heap.size w w1) := HBB.out.drew.trans (hb1.mono HBB.out.size)
   clear hb1 dd1 dd0
   have HM2 : Hid (∀ W, Calls Tryz.prog 62 #[.int .i64 ((K0 : Int) + 1 + 1)] W fun e w' => e = .returned (.string y2) ∧ Below W.heap.size W w') := fun W => by
    have := sr.mark_any (K0 + 2) (by omega) (by omega) W
    rw [show ((K0 + 2 : Nat) : Int) = (K0 : Int) + 1 + 1 by omega] at this
    rwa [show sr.mark (K0 + 2) = y2 from (congrArg sr.mark (by  omega)).trans HY2.out] at this
   have HCd2 : Hid (∀ W, Below w.heap.size w W → W.cell? ⟨b, o + i * 6 + 2, none⟩ = some (.string y2)) := fun W hW => (HC.out W hW).2.2.1
   have dd2 := HCd2.out w1 HB1.out
   go_wp2_with fail
   go_region_held3 (fun w' => w'.cell? ⟨b, o + i * 6 + 2, none⟩ = some (.string y2))
    (first | go_keep | exact HCd2.out _ (HB1.out.drew.trans (hb1.mono HB1.out.size)))
    (first | ((go_at_call 62; refine (HM2.out _).mono ?_; rintro e w2 ⟨rfl, hb1⟩)))
   have HB2 : Hid (Below w.heap.size w w2) := HB1.out.drew.trans (hb1.mono HB1.out.size)
   clear hb1 dd2 
   have HM3 : Hid (∀ W, Below w.heap.size w W → Calls Tryz.prog 65 #[.slice a3 x.fTree.length c3, .int .i64 ((K0 : Int) + 1 + 1 + 1)] W fun e w' => e = .returned (.int .i64 ((K0 + 3 + cnEt x.fTree : Nat) : Int)) ∧ Below W.heap.size W w') := fun W hW => by
    have := heldEt_any a3 c3 x.fTree (K0 + 3) W (by have h9 := HS3.out W hW; rwa [show K0 + 3 = K0 + 3 by  omega] at h9) (by omega) (by have h9 := HCB.out;  unfold cn1Wr at h9; omega)
    rwa [show ((K0 + 3 : Nat) : Int) = (K0 : Int) + 1 + 1 + 1 by omega] at this
   have dd3 := (HC.out w2 HB2.out).2.2.2.1
   obtain ⟨z3, hz3⟩ : ∃ z, x.fTree.length = z := ⟨_, rfl⟩
   obtain ⟨K4, hK4⟩ : ∃ z : Nat, K0 + 3 + cnEt x.fTree = z := ⟨_, rfl⟩
   have HK4 := Lib.hid hK4
   have hKb4 : K4 ≤ 100000000 ∧ 0 < K4 := ⟨by have h9 := HCB.out;  unfold cn1Wr at h9; omega, by omega⟩
   have hng3 : ¬ (K4 : Int) < 0 := by omega
   rw [hK4, hz3] at HM3
   rw [hz3] at dd3
   clear hK4 hz3
   go_wp2_with (go_at_call 65; refine (HM3.out _ HB2.out).mono ?_; rintro e w3 ⟨rfl, hb1⟩; refine Hid.out ?_)
   refine Lib.hid ?_
   have HB3 : Hid (Below w.heap.size w w3) := HB2.out.trans (hb1.mono HB2.out.size)
   clear hb1 dd3 
   have HM4 : Hid (∀ W, Calls Tryz.prog 62 #[.int .i64 ((K4 : Int))] W fun e w' => e = .returned (.string y4) ∧ Below W.heap.size W w') := fun W => by
    have := sr.mark_any (K4) (by omega) (by omega) W
    rw [show ((K4 : Nat) : Int) = (K4 : Int) by omega] at this
    rwa [show sr.mark (K4) = y4 from (congrArg sr.mark (by have := HK4.out; omega)).trans HY4.out] at this
   have HCd4 : Hid (∀ W, Below w.heap.size w W → W.cell? ⟨b, o + i * 6 + 4, none⟩ = some (.string y4)) := fun W hW => (HC.out W hW).2.2.2.2.1
   have dd4 := HCd4.out w3 HB3.out
   go_wp2_with fail
   go_region_held3 (fun w' => w'.cell? ⟨b, o + i * 6 + 4, none⟩ = some (.string y4))
    (first | go_keep | exact HCd4.out _ (HB3.out.drew.trans (hb1.mono HB3.out.size)))
    (first | ((go_at_call 62; refine (HM4.out _).mono ?_; rintro e w4 ⟨rfl, hb1⟩)))
   have HB4 : Hid (Below w.heap.size w w4) := HB3.out.drew.trans (hb1.mono HB3.out.size)
   clear hb1 dd4 
   have dd5 : w4.cell? ⟨b, o + i * 6 + 5, none⟩ = some (.int .i64 ((K4 : Int) + 1)) := by have := (HC.out w4 HB4.out).2.2.2.2.2; rwa [show (((K0 + 3 + cnEt x.fTree) + 1 : Nat) : Int) = (K4 : Int) + 1 by have := HK4.out; omega] at this
   go_wp2_with fail
   go_roundw
   case rel => exact ⟨i + 1, by omega, by go_num, by (rw [HSU.out]; unfold cn1Wr; have := HK4.out; have := HKK.out; go_num), HB4.out⟩
   case measure => simp [intOf]; omega
  ·have h' : ¬ (i : Int) < (n : Int) := by omega
   obtain rfl : i = n := by omega
   have HE : Hid (cnkWr l i = cnWr l) := by show _ = _; unfold cnWr; rw [HNN.out]
   rw [HE.out]
   go_wp2
   go_ret
   exact ⟨rfl, HBB.out⟩
end Go.Proofs.YtpfnnjfapcnbnaaGreatDoor.ty
