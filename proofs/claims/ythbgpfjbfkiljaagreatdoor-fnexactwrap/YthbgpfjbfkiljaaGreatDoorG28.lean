import Derived.Test.YthbgpfjbfkiljaaGreatDoorG27
import Derived.Deep.RegionHeld3
import Derived.Test.YthbgpfjbfkiljaaGreatDoorG23
set_option linter.unusedVariables false
set_option linter.unusedSimpArgs false
set_option maxRecDepth 100000
set_option maxHeartbeats 16000000
namespace Go.Proofs.YthbgpfjbfkiljaaGreatDoor.ty
open Go.ChangeShapes Go.WideShapes Go.ChangeAt Go.RowKit Go.Deep
def Md (lo hi : Nat) (w w' : World) : Prop := (w'.os = w.os ∧ w'.tape = w.tape ∧ w'.output = w.output) ∧ w.heap.size ≤ w'.heap.size ∧ ∀ j, j < w.heap.size → (j < lo ∨ hi ≤ j) → w'.heap[j]? = w.heap[j]?
theorem Md.refl (lo hi : Nat) (w : World) : Md lo hi w w := ⟨⟨rfl, rfl, rfl⟩, Nat.le_refl _, fun _ _ _ => rfl⟩
theorem Md.trans {lo hi : Nat} {A B C : World} (h : Md lo hi A B) (k : Md lo hi B C) : Md lo hi A C := ⟨⟨k.1.1.trans h.1.1, k.1.2.1.trans h.1.2.1, k.1.2.2.trans h.1.2.2⟩, Nat.le_trans h.2.1 k.2.1, fun j hj e => (k.2.2 j (Nat.lt_of_lt_of_le hj h.2.1) e).trans (h.2.2 j hj e)⟩
theorem Md.toBelow {lo hi B : Nat} {w w' : World} (h : Md lo hi w w') (hB : B ≤ lo) (hs : B ≤ w.heap.size) : Below B w w' := ⟨h.1.1, h.1.2.1, h.1.2.2, h.2.1, fun j hj => h.2.2 j (by omega) (.inl (by omega))⟩
def Fr (b s e : Nat) (w w' : World) : Prop := (w'.os = w.os ∧ w'.tape = w.tape ∧ w'.output = w.output) ∧ w.heap.size ≤ w'.heap.size ∧ ∀ j, j < w.heap.size → j ≠ b → (j < s ∨ e ≤ j) → w'.heap[j]? = w.heap[j]?
theorem Fr.refl (b s e : Nat) (w : World) : Fr b s e w w := ⟨⟨rfl, rfl, rfl⟩, Nat.le_refl _, fun _ _ _ _ => rfl⟩
theorem Fr.trans {b s e : Nat} {A B C : World} (h : Fr b s e A B) (k : Fr b s e B C) : Fr b s e A C := ⟨⟨k.1.1.trans h.1.1, k.1.2.1.trans h.1.2.1, k.1.2.2.trans h.1.2.2⟩, Nat.le_trans h.2.1 k.2.1, fun j hj e1 e2 => (k.2.2 j (Nat.lt_of_lt_of_le hj h.2.1) e1 e2).trans (h.2.2 j hj e1 e2)⟩
theorem Fr.below {b s e : Nat} {A B C : World} (h : Fr b s e A B) (k : Below B.heap.size B C) : Fr b s e A C := h.trans ⟨⟨k.os, k.tape, k.output⟩, k.size, fun j hj _ _ => k.block j hj⟩
theorem Fr.set {b s e : Nat} {A B : World} (h : Fr b s e A B) (p : Nat) (x : Value) : Fr b s e A (B.setCell ⟨b, p, none⟩ x) :=
 h.trans ⟨⟨rfl, rfl, rfl⟩, by simp, fun j hj e _ => by simp only [World.setCell]; rw [Array.getElem?_modify, if_neg (fun h => e h.symm)]⟩
theorem Fr.to {b s e lo hi : Nat} {A B : World} (h : Fr b s e A B) (h1 : lo ≤ b) (h2 : b < hi) (h3 : lo ≤ s) (h4 : e ≤ hi) : Md lo hi A B := ⟨h.1, h.2.1, fun j hj e => h.2.2 j hj (by omega) (by omega)⟩
def up (f : Nat → Value) (p : Nat) (v : Value) : Nat → Value := fun j => if j = p then v else f j
theorem up_same (f : Nat → Value) (p : Nat) (v : Value) : up f p v p = v := by unfold up; rw [if_pos rfl]
theorem up_at {f : Nat → Value} {p q : Nat} {v : Value} (h : q = p) : up f p v q = v := by subst h; exact up_same _ _ _
theorem up_oth {f : Nat → Value} {p q : Nat} {v : Value} (h : q ≠ p) : up f p v q = f q := by unfold up; rw [if_neg h]
theorem row_up {w : World} {b t N : Nat} {f : Nat → Value} (h : w.rowIs b t N f) (p : Nat) (v : Value) : (w.setCell ⟨b, p, none⟩ v).rowIs b t N (up f p v) := h.set p v
def mk1Et (k : Nat) (x : Et) : Et := ⟨sr.mark (k), ((k + 1 : Nat) : Int), sr.mark (k + 2), decide (((k + 3 : Nat) : Int) % 3 = 0)⟩
def mkEt (k : Nat) (l : List Et) : List Et := l.mapIdx fun i x => mk1Et (k + cnkEt l i) x
theorem mkEt_len (k : Nat) (l : List Et) : (mkEt k l).length = l.length := by simp [mkEt]
theorem mkEt_at {k : Nat} {l : List Et} {i : Nat} {x : Et} (h : l[i]? = some x) : (mkEt k l)[i]? = some (mk1Et (k + cnkEt l i) x) := by simp [mkEt, h]
theorem mkEt_of {k : Nat} {l : List Et} {i : Nat} {y : Et} (h : (mkEt k l)[i]? = some y) : ∃ x, l[i]? = some x ∧ y = mk1Et (k + cnkEt l i) x := by
 have hi := (List.getElem?_eq_some_iff.1 h).1
 rw [mkEt_len] at hi
 have hx := List.getElem?_eq_getElem hi
 rw [mkEt_at hx] at h
 exact ⟨_, hx, (Option.some.inj h).symm⟩
def E1Et (lo hi : Nat) (w : World) (g : Nat → Value) (x : Et) : Prop := g 0 = .string x.fPath ∧ g 1 = .int .i64 x.fKind ∧ g 2 = .string x.fData ∧ g 3 = .bool x.fExec
theorem E1Et.kept {lo hi : Nat} {w w' : World} {g g' : Nat → Value} {x : Et} (h : E1Et lo hi w g x) (hg : ∀ r, r < 4 → g' r = g r) (hk : ∀ p, lo ≤ p → p < hi → w'.heap[p]? = w.heap[p]?) : E1Et lo hi w' g' x := by
 obtain ⟨q0, q1, q2, q3⟩ := h
 exact ⟨(hg 0 (by omega)).trans q0, (hg 1 (by omega)).trans q1, (hg 2 (by omega)).trans q2, (hg 3 (by omega)).trans q3⟩
def GEt (lo hi : Nat) (w : World) (a : Option Addr) (l : List Et) : Prop := ∃ b o t N f, ∃ s e : Nat → Nat, a = some ⟨b, o, none⟩ ∧ lo ≤ b ∧ b < hi ∧ w.rowIs b t N f ∧ o + l.length * 4 ≤ N ∧ (∀ (i : Nat) (x : Et), l[i]? = some x → lo ≤ s i ∧ e i ≤ hi ∧ (b < s i ∨ e i ≤ b) ∧ E1Et (s i) (e i) w (fun r => f (o + i * 4 + r)) x) ∧ (∀ i j, i < j → j < l.length → e i ≤ s j ∨ e j ≤ s i)
theorem GEt.kept {lo hi : Nat} {w w' : World} {a : Option Addr} {l : List Et} (h : GEt lo hi w a l) (hk : ∀ p, lo ≤ p → p < hi → w'.heap[p]? = w.heap[p]?) : GEt lo hi w' a l := by
 obtain ⟨b, o, t, N, f, s, e, h0, h1, h2, h3, h4, h5, h6⟩ := h
 exact ⟨b, o, t, N, f, s, e, h0, h1, h2, h3.of_block (hk b h1 h2), h4, fun i x hx => by
  obtain ⟨k1, k2, k3, k4⟩ := h5 i x hx
  exact ⟨k1, k2, k3, k4.kept (fun _ _ => rfl) fun p g1 g2 => hk p (by omega) (by omega)⟩, h6⟩
theorem GEt.src {lo hi : Nat} {w : World} {a : Option Addr} {l : List Et} (h : GEt lo hi w a l) : SrcEt none w a l := by
 obtain ⟨b, o, t, N, f, s, e, h0, h1, h2, h3, h4, h5, h6⟩ := h
 refine .inr ⟨b, o, h0, Okb.free _ _, fun i x hx => ?_⟩
 have hi := (List.getElem?_eq_some_iff.1 hx).1
 obtain ⟨k1, k2, k3, k4⟩ := h5 i x hx
 obtain ⟨q0, q1, q2, q3⟩ := k4
 exact ⟨(h3.cell (i := o + i * 4) (by omega)).trans (congrArg some q0), (h3.cell (i := o + i * 4 + 1) (by omega)).trans (congrArg some q1), (h3.cell (i := o + i * 4 + 2) (by omega)).trans (congrArg some q2), (h3.cell (i := o + i * 4 + 3) (by omega)).trans (congrArg some q3)⟩
theorem markGEt_any (lo hi : Nat) (a : Option Addr) (c : Nat) (l : List Et) (k0 : Nat) (w : World) (hG : GEt lo hi w a l) (hhi : hi ≤ w.heap.size) (h0 : 0 < k0) (hk : k0 + cnEt l ≤ 100000000) :
  Calls Tryz.prog 15 #[.slice a l.length c, .int .i64 (k0 : Int)] w fun e w' => e = .returned (.int .i64 ((k0 + cnEt l : Nat) : Int)) ∧ GEt lo hi w' a (mkEt k0 l) ∧ Md lo hi w w' := by
 obtain ⟨b, o, t, N, f0, s, e, rfl, hl, hh, hrow, hN, hel, hdis⟩ := hG
 have HRZ : Hid (w.rowIs b t N f0) := hrow
 have HEZ := Lib.hid hel
 have HDI := Lib.hid hdis
 have HCL := Lib.hid (cnkEt_le l)
 have HKL : Hid (k0 + cnEt l ≤ 100000000) := hk
 clear hrow hel hdis hk
 obtain ⟨n, hn⟩ : ∃ n, l.length = n := ⟨_, rfl⟩
 have HN : Hid (l.length = n) := hn
 have hn9 : n ≤ 100000000 := by have h1 := cnEt_len l; have h2 := HKL.out; omega
 rw [hn] at hN ⊢
 clear hn
 go_enter Tryz.func15, Tryz.ntmps15
 go_wp2
 go_loopw [1, 5] (fun a x wr => ∃ (i : Nat) (f : Nat → Value), i ≤ n ∧ x = .int .i64 (i : Int) ∧ a = .int .i64 ((k0 + cnkEt l i : Nat) : Int) ∧ wr.rowIs b t N f ∧ (∀ (j : Nat) (y : Et), l[j]? = some y → E1Et (s j) (e j) wr (fun r => f (o + j * 4 + r)) (if j < i then mk1Et (k0 + cnkEt l j) y else y)) ∧ Md lo hi w wr) (fun _ x _ => n - (intOf x).toNat)
 case atStart => exact ⟨0, f0, Nat.zero_le _, rfl, by simp [cnkEt], HRZ.out, fun j y hy => (HEZ.out j y hy).2.2.2, Md.refl _ _ _⟩
 case round =>
  obtain ⟨i, f, hi', rfl, rfl, hrow, hel, hmd⟩ := hrel
  have HRW : Hid (wr.rowIs b t N f) := hrow
  have HEL := Lib.hid hel
  have HMD : Hid (Md lo hi w wr) := hmd
  have hhr : hi ≤ wr.heap.size := by have := hmd.2.1; omega
  clear hrow hel hmd
  by_cases h : i < n
  ·have h' : (i : Int) < (n : Int) := by omega
   have hi0 : (0 : Int) ≤ (i : Int) := by omega
   obtain ⟨x, hx⟩ : ∃ x, l[i]? = some x := ⟨_, List.getElem?_eq_getElem (by rw [HN.out]; exact h)⟩
   have HX : Hid (l[i]? = some x) := hx
   have HSU := Lib.hid (cnkEt_succ hx)
   obtain ⟨hs1, hs2, hs3, _⟩ := HEZ.out i x hx
   have hE := HEL.out i x hx
   rw [if_neg (Nat.lt_irrefl i)] at hE
   obtain ⟨q0, q1, q2, q3⟩ := hE
   have q0 : f (o + i * 4 + 0) = .string x.fPath := q0
   have q1 : f (o + i * 4 + 1) = .int .i64 x.fKind := q1
   have q2 : f (o + i * 4 + 2) = .string x.fData := q2
   have q3 : f (o + i * 4 + 3) = .bool x.fExec := q3

   have HF0 : Hid (Fr b (s i) (e i) wr wr) := Fr.refl _ _ _ _
   obtain ⟨K0, hK0⟩ : ∃ K : Nat, k0 + cnkEt l i = K := ⟨_, rfl⟩
   have HKK : Hid (k0 + cnkEt l i = K0) := hK0
   have HCB : Hid (K0 + cn1Et x ≤ 100000000) := by
    show _ ≤ _
    have h1 := HCL.out (i + 1)
    have h2 := HKL.out
    have h3 := HSU.out
    omega
   have hK0b : K0 ≤ 100000000 := by have := HCB.out; omega
   have hK0c : K0 + 4 ≤ 100000000 := by have h9 := HCB.out; unfold cn1Et at h9; omega
   have hK0p : 0 < K0 := by omega
   rw [hK0]
   clear hK0 hx
   have HM0 : Hid (∀ W, Calls Tryz.prog 39 #[.int .i64 ((K0 : Int))] W fun e w' => e = .returned (.string (sr.mark (K0))) ∧ Below W.heap.size W w') := fun W => by
    have := sr.mark_any (K0) (by omega) (by omega) W
    rwa [show ((K0 : Nat) : Int) = (K0 : Int) by omega] at this
   obtain ⟨y0, hy0⟩ : ∃ y, sr.mark (K0) = y := ⟨_, rfl⟩
   have HY0 : Hid (sr.mark (K0) = y0) := hy0
   rw [hy0] at HM0
   clear hy0
   go_wp2_with (go_at_call 39; refine (HM0.out _).mono ?_; rintro e w0 ⟨rfl, hb⟩; refine Hid.out ?_)
   refine Lib.hid ?_
   have HR1 : Hid (w0.rowIs b t N (f)) := HRW.out.of_block (hb.block b HRW.out.lt)
   have HF1 : Hid (Fr b (s i) (e i) wr w0) := HF0.out.below hb
   clear hb HM0 
   have g0 := HR1.out.cell (i := o + i * 4) (by omega)
   have z0 := HR1.out.frozen (o + i * 4)
   have HR2 : Hid ((w0.setCell ⟨b, o + i * 4, none⟩ (.string y0)).rowIs b t N (up (f) (o + i * 4) (.string y0))) := row_up HR1.out _ _
   have HF2 : Hid (Fr b (s i) (e i) wr (w0.setCell ⟨b, o + i * 4, none⟩ (.string y0))) := HF1.out.set _ _
   have g1 := HR1.out.cell (i := o + i * 4 + 1) (by omega)
   have z1 := HR1.out.frozen (o + i * 4 + 1)
   have HR3 : Hid (((w0.setCell ⟨b, o + i * 4, none⟩ (.string y0)).setCell ⟨b, o + i * 4 + 1, none⟩ (.int .i64 ((K0 : Int) + 1))).rowIs b t N (up (up (f) (o + i * 4) (.string y0)) (o + i * 4 + 1) (.int .i64 ((K0 : Int) + 1)))) := row_up HR2.out _ _
   have HF3 : Hid (Fr b (s i) (e i) wr ((w0.setCell ⟨b, o + i * 4, none⟩ (.string y0)).setCell ⟨b, o + i * 4 + 1, none⟩ (.int .i64 ((K0 : Int) + 1)))) := HF2.out.set _ _
   have HM2 : Hid (∀ W, Calls Tryz.prog 39 #[.int .i64 ((K0 : Int) + 1 + 1)] W fun e w' => e = .returned (.string (sr.mark (K0 + 2))) ∧ Below W.heap.size W w') := fun W => by
    have := sr.mark_any (K0 + 2) (by omega) (by omega) W
    rwa [show ((K0 + 2 : Nat) : Int) = (K0 : Int) + 1 + 1 by omega] at this
   obtain ⟨y2, hy2⟩ : ∃ y, sr.mark (K0 + 2) = y := ⟨_, rfl⟩
   have HY2 : Hid (sr.mark (K0 + 2) = y2) := hy2
   rw [hy2] at HM2
   clear hy2
   go_wp2_with (go_at_call 39; refine (HM2.out _).mono ?_; rintro e w2 ⟨rfl, hb⟩; refine Hid.out ?_)
   refine Lib.hid ?_
   have HR4 : Hid (w2.rowIs b t N (up (up (f) (o + i * 4) (.string y0)) (o + i * 4 + 1) (.int .i64 ((K0 : Int) + 1)))) := HR3.out.of_block (hb.block b HR3.out.lt)
   have HF4 : Hid (Fr b (s i) (e i) wr w2) := HF3.out.below hb
   clear hb HM2 g0 z0 g1 z1
   have g2 := HR4.out.cell (i := o + i * 4 + 2) (by omega)
   have z2 := HR4.out.frozen (o + i * 4 + 2)
   have HR5 : Hid ((w2.setCell ⟨b, o + i * 4 + 2, none⟩ (.string y2)).rowIs b t N (up (up (up (f) (o + i * 4) (.string y0)) (o + i * 4 + 1) (.int .i64 ((K0 : Int) + 1))) (o + i * 4 + 2) (.string y2))) := row_up HR4.out _ _
   have HF5 : Hid (Fr b (s i) (e i) wr (w2.setCell ⟨b, o + i * 4 + 2, none⟩ (.string y2))) := HF4.out.set _ _
   obtain ⟨y3, hy3⟩ : ∃ t, decide (((K0 : Int) + 1 + 1 + 1) % 3 = 0) = t := ⟨_, rfl⟩
   have hyb3 : (((K0 : Int) + 1 + 1 + 1) % 3 == 0) = y3 := by rw [← hy3]; rfl
   have HY3 := Lib.hid hy3
   have g3 := HR4.out.cell (i := o + i * 4 + 3) (by omega)
   have z3 := HR4.out.frozen (o + i * 4 + 3)
   have HR6 : Hid (((w2.setCell ⟨b, o + i * 4 + 2, none⟩ (.string y2)).setCell ⟨b, o + i * 4 + 3, none⟩ (.bool y3)).rowIs b t N (up (up (up (up (f) (o + i * 4) (.string y0)) (o + i * 4 + 1) (.int .i64 ((K0 : Int) + 1))) (o + i * 4 + 2) (.string y2)) (o + i * 4 + 3) (.bool y3))) := row_up HR5.out _ _
   have HF6 : Hid (Fr b (s i) (e i) wr ((w2.setCell ⟨b, o + i * 4 + 2, none⟩ (.string y2)).setCell ⟨b, o + i * 4 + 3, none⟩ (.bool y3))) := HF5.out.set _ _
   have HEN : Hid (E1Et (s i) (e i) ((w2.setCell ⟨b, o + i * 4 + 2, none⟩ (.string y2)).setCell ⟨b, o + i * 4 + 3, none⟩ (.bool y3)) (fun r => (up (up (up (up (f) (o + i * 4) (.string y0)) (o + i * 4 + 1) (.int .i64 ((K0 : Int) + 1))) (o + i * 4 + 2) (.string y2)) (o + i * 4 + 3) (.bool y3)) (o + i * 4 + r)) (mk1Et K0 x)) := ⟨(by show (up (up (up (up (f) (o + i * 4) (.string y0)) (o + i * 4 + 1) (.int .i64 ((K0 : Int) + 1))) (o + i * 4 + 2) (.string y2)) (o + i * 4 + 3) (.bool y3)) (o + i * 4 + 0) = .string (sr.mark (K0)); exact (up_oth (by omega)).trans ((up_oth (by omega)).trans ((up_oth (by omega)).trans ((up_at (by omega)).trans (congrArg Value.string (HY0.out.symm.trans (congrArg sr.mark (by  omega)))))))), (by show (up (up (up (up (f) (o + i * 4) (.string y0)) (o + i * 4 + 1) (.int .i64 ((K0 : Int) + 1))) (o + i * 4 + 2) (.string y2)) (o + i * 4 + 3) (.bool y3)) (o + i * 4 + 1) = .int .i64 (((K0 + 1 : Nat)) : Int); exact (up_oth (by omega)).trans ((up_oth (by omega)).trans ((up_at (by omega)).trans (congrArg (Value.int .i64) (by  omega))))), (by show (up (up (up (up (f) (o + i * 4) (.string y0)) (o + i * 4 + 1) (.int .i64 ((K0 : Int) + 1))) (o + i * 4 + 2) (.string y2)) (o + i * 4 + 3) (.bool y3)) (o + i * 4 + 2) = .string (sr.mark (K0 + 2)); exact (up_oth (by omega)).trans ((up_at (by omega)).trans (congrArg Value.string (HY2.out.symm.trans (congrArg sr.mark (by  omega)))))), (by show (up (up (up (up (f) (o + i * 4) (.string y0)) (o + i * 4 + 1) (.int .i64 ((K0 : Int) + 1))) (o + i * 4 + 2) (.string y2)) (o + i * 4 + 3) (.bool y3)) (o + i * 4 + 3) = .bool (decide (((K0 + 3 : Nat) : Int) % 3 = 0)); exact (up_at (by omega)).trans (congrArg Value.bool (HY3.out.symm.trans (by  rw [show (((K0 + 3 : Nat)) : Int) = (K0 : Int) + 1 + 1 + 1 by omega]))))⟩
   have HEA : Hid (∀ (j : Nat) (y : Et), l[j]? = some y → E1Et (s j) (e j) ((w2.setCell ⟨b, o + i * 4 + 2, none⟩ (.string y2)).setCell ⟨b, o + i * 4 + 3, none⟩ (.bool y3)) (fun r => (up (up (up (up (f) (o + i * 4) (.string y0)) (o + i * 4 + 1) (.int .i64 ((K0 : Int) + 1))) (o + i * 4 + 2) (.string y2)) (o + i * 4 + 3) (.bool y3)) (o + j * 4 + r)) (if j < i + 1 then mk1Et (k0 + cnkEt l j) y else y)) := fun j y hy => by
    by_cases hji : j = i
    ·subst hji
     have hxy : x = y := Option.some.inj (HX.out.symm.trans hy)
     rw [if_pos (by omega), HKK.out, ← hxy]
     exact HEN.out
    ·have hold := HEL.out j y hy
     rw [show (if j < i + 1 then mk1Et (k0 + cnkEt l j) y else y) = (if j < i then mk1Et (k0 + cnkEt l j) y else y) by by_cases hj2 : j < i <;> simp [hj2] <;> omega]
     have hjl := (List.getElem?_eq_some_iff.1 hy).1
     have hil : i < l.length := by rw [HN.out]; exact h
     obtain ⟨u1, u2, u3, _⟩ := HEZ.out j y hy
     have hdj : e i ≤ s j ∨ e j ≤ s i := by
      rcases Nat.lt_or_ge j i with h9 | h9
      ·exact (HDI.out j i h9 hil).symm
      ·exact HDI.out i j (by omega) hjl
     exact hold.kept (fun r hr => (by show (up (up (up (up (f) (o + i * 4) (.string y0)) (o + i * 4 + 1) (.int .i64 ((K0 : Int) + 1))) (o + i * 4 + 2) (.string y2)) (o + i * 4 + 3) (.bool y3)) (o + j * 4 + r) = f (o + j * 4 + r); exact (up_oth (by omega)).trans ((up_oth (by omega)).trans ((up_oth (by omega)).trans ((up_oth (by omega)).trans (rfl)))))) (fun p p1 p2 => HF6.out.2.2 p (by omega) (by omega) (by omega))
   have HME : Hid (Md lo hi w ((w2.setCell ⟨b, o + i * 4 + 2, none⟩ (.string y2)).setCell ⟨b, o + i * 4 + 3, none⟩ (.bool y3))) := HMD.out.trans (HF6.out.to hl hh hs1 hs2)
   clear q0 q1 q2 q3
   go_wp2
   go_roundw
   case rel => exact ⟨i + 1, _, by omega, by go_num, by (rw [HSU.out]; unfold cn1Et;  have := HKK.out; go_num), HR6.out, HEA.out, HME.out⟩
   case measure => simp [intOf]; omega
  ·have h' : ¬ (i : Int) < (n : Int) := by omega
   obtain rfl : i = n := by omega
   have HE : Hid (cnkEt l i = cnEt l) := by show _ = _; unfold cnEt; rw [HN.out]
   rw [HE.out]
   have HGE : Hid (GEt lo hi wr (some ⟨b, o, none⟩) (mkEt k0 l)) := ⟨b, o, t, N, f, s, e, rfl, hl, hh, HRW.out, by rw [mkEt_len, HN.out]; exact hN, fun j y hy => by
    obtain ⟨x, hx, rfl⟩ := mkEt_of hy
    obtain ⟨u1, u2, u3, _⟩ := HEZ.out j x hx
    have := HEL.out j x hx
    rw [if_pos (by have := (List.getElem?_eq_some_iff.1 hx).1; have := HN.out; omega)] at this
    exact ⟨u1, u2, u3, this⟩, fun p q h1 h2 => HDI.out p q h1 (by rw [mkEt_len] at h2; exact h2)⟩
   go_wp2
   go_ret
   exact ⟨rfl, HGE.out, HMD.out⟩
theorem heldEt_any (a : Option Addr) (c : Nat) (l : List Et) (k0 : Nat) (w : World) (hR : SrcEt none w a (mkEt k0 l)) (h0 : 0 < k0) (hk : k0 + cnEt l ≤ 100000000) :
  Calls Tryz.prog 16 #[.slice a l.length c, .int .i64 (k0 : Int)] w fun e w' => e = .returned (.int .i64 ((k0 + cnEt l : Nat) : Int)) ∧ Below w.heap.size w w' := by
 have HER := Lib.hid hR
 have HCL := Lib.hid (cnkEt_le l)
 have HKL : Hid (k0 + cnEt l ≤ 100000000) := hk
 obtain ⟨n, hn⟩ : ∃ n, l.length = n := ⟨_, rfl⟩
 have HNN : Hid (l.length = n) := hn
 have hn9 : n ≤ 100000000 := by have h1 := cnEt_len l; have h2 := HKL.out; omega
 rw [hn]
 clear hR hn hk
 go_enter Tryz.func16, Tryz.ntmps16
 go_wp2
 go_loopw [1, 5] (fun v x wr => ∃ (i : Nat), i ≤ n ∧ x = .int .i64 (i : Int) ∧ v = .int .i64 ((k0 + cnkEt l i : Nat) : Int) ∧ Below w.heap.size w wr) (fun _ x _ => n - (intOf x).toNat)
 case atStart => exact ⟨0, Nat.zero_le _, rfl, by simp [cnkEt], Below.refl _ _⟩
 case round =>
  obtain ⟨i, hi, rfl, rfl, hbel⟩ := hrel
  have HBB : Hid (Below w.heap.size w wr) := hbel
  clear hbel
  by_cases h : i < n
  ·have h' : (i : Int) < (n : Int) := by omega
   have hi0 : (0 : Int) ≤ (i : Int) := by omega
   obtain ⟨x, hx⟩ : ∃ x, l[i]? = some x := ⟨_, List.getElem?_eq_getElem (by rw [HNN.out]; exact h)⟩
   have HX : Hid (l[i]? = some x) := hx
   have HSU := Lib.hid (cnkEt_succ hx)
   rcases HER.out with he | ⟨b, o, rfl, _, hc⟩
   ·have := congrArg List.length he.2; rw [mkEt_len, HNN.out] at this; simp at this; omega
   have hcx := hc i _ (mkEt_at hx)
   obtain ⟨K0, hK0⟩ : ∃ K : Nat, k0 + cnkEt l i = K := ⟨_, rfl⟩
   rw [hK0] at hcx
   have HKK : Hid (k0 + cnkEt l i = K0) := hK0
   have HCB : Hid (K0 + cn1Et x ≤ 100000000) := by
    show _ ≤ _
    have h1 := HCL.out (i + 1)
    have h2 := HKL.out
    have h3 := HSU.out
    omega
   have hK0b : K0 ≤ 100000000 := by have := HCB.out; omega
   have hK0c : K0 + 4 ≤ 100000000 := by have h9 := HCB.out; unfold cn1Et at h9; omega
   have hK0p : 0 < K0 := by omega
   rw [hK0]
   obtain ⟨e0, e1, e2, e3⟩ := hcx
   have HC : Hid (∀ W, Below w.heap.size w W → W.cell? ⟨b, o + i * 4, none⟩ = some (.string (sr.mark (K0))) ∧ W.cell? ⟨b, o + i * 4 + 1, none⟩ = some (.int .i64 (((K0 + 1 : Nat)) : Int)) ∧ W.cell? ⟨b, o + i * 4 + 2, none⟩ = some (.string (sr.mark (K0 + 2))) ∧ W.cell? ⟨b, o + i * 4 + 3, none⟩ = some (.bool (decide (((K0 + 3 : Nat) : Int) % 3 = 0)))) := fun W hW => by
    have kk : ∀ {p v}, w.cell? ⟨b, p, none⟩ = some v → W.cell? ⟨b, p, none⟩ = some v := fun {p v} h => (hW.cell (p := ⟨b, p, none⟩) (World.block_lt_of_cell? _ _ h)).trans h
    exact ⟨kk e0, kk e1, kk e2, kk e3⟩

   obtain ⟨y0, hy0⟩ : ∃ y, sr.mark (K0) = y := ⟨_, rfl⟩
   have HY0 : Hid (sr.mark (K0) = y0) := hy0
   rw [hy0] at HC
   clear hy0
   obtain ⟨y2, hy2⟩ : ∃ y, sr.mark (K0 + 2) = y := ⟨_, rfl⟩
   have HY2 : Hid (sr.mark (K0 + 2) = y2) := hy2
   rw [hy2] at HC
   clear hy2
   clear hK0 hx hc e0 e1 e2 e3 
   have HM0 : Hid (∀ W, Calls Tryz.prog 39 #[.int .i64 ((K0 : Int))] W fun e w' => e = .returned (.string y0) ∧ Below W.heap.size W w') := fun W => by
    have := sr.mark_any (K0) (by omega) (by omega) W
    rw [show ((K0 : Nat) : Int) = (K0 : Int) by omega] at this
    rwa [show sr.mark (K0) = y0 from (congrArg sr.mark (by  omega)).trans HY0.out] at this
   have HCd0 : Hid (∀ W, Below w.heap.size w W → W.cell? ⟨b, o + i * 4, none⟩ = some (.string y0)) := fun W hW => (HC.out W hW).1
   have dd0 := HCd0.out wr HBB.out
   go_wp2_with fail
   go_region_held3 (fun w' => w'.cell? ⟨b, o + i * 4, none⟩ = some (.string y0))
    (first | go_keep | exact HCd0.out _ (HBB.out.drew.trans (hb1.mono HBB.out.size)))
    (first | ((go_at_call 39; refine (HM0.out _).mono ?_; rintro e w0 ⟨rfl, hb1⟩)))
   have HB0 : Hid (Below w.heap.size w w0) := HBB.out.drew.trans (hb1.mono HBB.out.size)
   clear hb1 dd0 
   have dd1 : w0.cell? ⟨b, o + i * 4 + 1, none⟩ = some (.int .i64 ((K0 : Int) + 1)) := by have := (HC.out w0 HB0.out).2.1; rwa [show ((K0 + 1 : Nat) : Int) = (K0 : Int) + 1 by  omega] at this
   have HM2 : Hid (∀ W, Calls Tryz.prog 39 #[.int .i64 ((K0 : Int) + 1 + 1)] W fun e w' => e = .returned (.string y2) ∧ Below W.heap.size W w') := fun W => by
    have := sr.mark_any (K0 + 2) (by omega) (by omega) W
    rw [show ((K0 + 2 : Nat) : Int) = (K0 : Int) + 1 + 1 by omega] at this
    rwa [show sr.mark (K0 + 2) = y2 from (congrArg sr.mark (by  omega)).trans HY2.out] at this
   have HCd2 : Hid (∀ W, Below w.heap.size w W → W.cell? ⟨b, o + i * 4 + 2, none⟩ = some (.string y2)) := fun W hW => (HC.out W hW).2.2.1
   have dd2 := HCd2.out w0 HB0.out
   go_wp2_with fail
   go_region_held3 (fun w' => w'.cell? ⟨b, o + i * 4 + 2, none⟩ = some (.string y2))
    (first | go_keep | exact HCd2.out _ (HB0.out.drew.trans (hb1.mono HB0.out.size)))
    (first | ((go_at_call 39; refine (HM2.out _).mono ?_; rintro e w2 ⟨rfl, hb1⟩)))
   have HB2 : Hid (Below w.heap.size w w2) := HB0.out.drew.trans (hb1.mono HB0.out.size)
   clear hb1 dd2 dd1
   obtain ⟨y3, hy3⟩ : ∃ t, decide (((K0 : Int) + 1 + 1 + 1) % 3 = 0) = t := ⟨_, rfl⟩
   have hyb3 : (((K0 : Int) + 1 + 1 + 1) % 3 == 0) = y3 := by rw [← hy3]; rfl
   have dd3 : w2.cell? ⟨b, o + i * 4 + 3, none⟩ = some (.bool y3) := by have := (HC.out w2 HB2.out).2.2.2; rw [show ((K0 + 3 : Nat) : Int) = (K0 : Int) + 1 + 1 + 1 by  omega] at this; rwa [hy3] at this
   go_wp2_with fail
   go_roundw
   case rel => exact ⟨i + 1, by omega, by go_num, by (rw [HSU.out]; unfold cn1Et;  have := HKK.out; go_num), HB2.out⟩
   case measure => simp [intOf]; omega
  ·have h' : ¬ (i : Int) < (n : Int) := by omega
   obtain rfl : i = n := by omega
   have HE : Hid (cnkEt l i = cnEt l) := by show _ = _; unfold cnEt; rw [HNN.out]
   rw [HE.out]
   go_wp2
   go_ret
   exact ⟨rfl, HBB.out⟩
end Go.Proofs.YthbgpfjbfkiljaaGreatDoor.ty

set_option linter.unusedVariables false
set_option linter.unusedSimpArgs false
set_option maxRecDepth 100000
set_option maxHeartbeats 16000000
namespace Go.Proofs.YthbgpfjbfkiljaaGreatDoor.so
open Go.ChangeShapes Go.WideShapes Go.ChangeAt Go.RowKit Go.Deep Go.Shelf Go.Maps
theorem nxok_any (p q : ByteArray) (hp : p.size ≤ 1048576) (hq : q.size ≤ 1048576) (w : World) (hT : wd.TabB w) :
  Calls Tryz.prog 223 #[.agg #[.string p, .string q]] w fun e w' => e = .returned (.bool (nm.nameB p && wd.aokB q)) ∧ Below w.heap.size w w' := by
 have HN : Hid (∀ W, Calls Tryz.prog 126 #[.string p] W fun e w' => e = .returned (.bool (nm.nameB p)) ∧ w' = W) := fun W => nm.impl_any p hp W
 have HQ : Hid (∀ W, Below w.heap.size w W → Calls Tryz.prog 150 #[.string q] W fun e w' => e = .returned (.bool (wd.aokB q)) ∧ Below W.heap.size W w') := fun W h => wd.aimpl_any q hq W (hT.below h)
 clear hT
 generalize wd.aokB q = r at *
 cases hn : nm.nameB p with
 | false =>
  rw [hn] at HN
  clear hn
  go_enter Tryz.func223, Tryz.ntmps223
  go_wp2_with (go_at_call 126; refine (HN.out _).mono ?_; rintro e w1 ⟨rfl, rfl⟩)
  go_ret
  exact ⟨rfl, (Below.refl _ _).alloc (Nat.le_refl _) _⟩
 | true =>
  rw [hn] at HN
  clear hn
  go_enter Tryz.func223, Tryz.ntmps223
  go_wp2_with (first
   | (go_at_call 126; refine (HN.out _).mono ?_; rintro e w1 ⟨rfl, rfl⟩)
   | (go_at_call 150; refine (HQ.out _ ((Below.refl _ _).alloc (Nat.le_refl _) _)).mono ?_; rintro e w2 ⟨rfl, hl2⟩))
  go_ret
  exact ⟨by first | rfl | simp, ((Below.refl _ _).alloc (Nat.le_refl _) _).trans (hl2.mono (by simp))⟩
theorem peok_any (p q : ByteArray) (a1 : Option Addr) (n1 c1 : Nat) (R : Bool) (hp : p.size ≤ 1048576) (hq : q.size ≤ 1048576) (w : World) (hT : wd.TabB w)
  (HTR : Hid (∀ W, Below w.heap.size w W → Calls Tryz.prog 66 #[.slice a1 n1 c1] W fun e w' => e = .returned (.bool R) ∧ Below W.heap.size W w')) :
  Calls Tryz.prog 222 #[.agg #[.string p, .slice a1 n1 c1, .string q]] w fun e w' => e = .returned (.bool (wd.aokB p && (frB q && R))) ∧ Below w.heap.size w w' := by
 have HP : Hid (∀ W, Below w.heap.size w W → Calls Tryz.prog 150 #[.string p] W fun e w' => e = .returned (.bool (wd.aokB p)) ∧ Below W.heap.size W w') := fun W h => wd.aimpl_any p hp W (hT.below h)
 have HF : Hid (∀ W, Below w.heap.size w W → Calls Tryz.prog 151 #[.string q] W fun e w' => e = .returned (.bool (frB q)) ∧ Below W.heap.size W w') := fun W h => from_any q hq W (hT.below h)
 have HB0 : Hid (Below w.heap.size w (w.alloc (Obj.cells #[.string p, .slice a1 n1 c1, .string q] 90))) := (Below.refl _ _).alloc (Nat.le_refl _) _
 clear hT
 cases hn : wd.aokB p with
 | false =>
  rw [hn] at HP
  clear hn
  go_enter Tryz.func222, Tryz.ntmps222
  go_wp2_with (go_at_call 150; refine (HP.out _ HB0.out).mono ?_; rintro e w1 ⟨rfl, hl1⟩)
  go_ret
  exact ⟨rfl, HB0.out.trans (hl1.mono HB0.out.size)⟩
 | true =>
  rw [hn] at HP
  clear hn
  cases hf : frB q with
  | false =>
   rw [hf] at HF
   clear hf
   go_enter Tryz.func222, Tryz.ntmps222
   go_wp2_with (first
    | (go_at_call 150; refine (HP.out _ HB0.out).mono ?_; rintro e w1 ⟨rfl, hl1⟩; have hb1 : Below w.heap.size w w1 := HB0.out.trans (hl1.mono HB0.out.size); have hcl := hl1.cell (p := ⟨w.heap.size, 0, none⟩) (by simp); have hcl1 := hl1.cell (p := ⟨w.heap.size, 1, none⟩) (by simp); have hcl2 := hl1.cell (p := ⟨w.heap.size, 2, none⟩) (by simp))
    | (go_at_call 151; refine (HF.out _ hb1).mono ?_; rintro e w2 ⟨rfl, hl2⟩))
   go_ret
   exact ⟨rfl, hb1.trans (hl2.mono hb1.size)⟩
  | true =>
   rw [hf] at HF
   clear hf
   go_enter Tryz.func222, Tryz.ntmps222
   go_wp2_with (first
    | (go_at_call 150; refine (HP.out _ HB0.out).mono ?_; rintro e w1 ⟨rfl, hl1⟩; have hb1 : Below w.heap.size w w1 := HB0.out.trans (hl1.mono HB0.out.size); have hs1 : (w.alloc (Obj.cells #[.string p, .slice a1 n1 c1, .string q] 90)).heap.size ≤ w1.heap.size := hl1.size; have hcl1 : w1.cell? ⟨w.heap.size, 1, none⟩ = some (.slice a1 n1 c1) := (hl1.cell (p := ⟨w.heap.size, 1, none⟩) (by simp)).trans (by simp [go_sem]); have hcl2 : w1.cell? ⟨w.heap.size, 2, none⟩ = some (.string q) := (hl1.cell (p := ⟨w.heap.size, 2, none⟩) (by simp)).trans (by simp [go_sem]))
    | (go_at_call 151; refine (HF.out _ hb1).mono ?_; rintro e w2 ⟨rfl, hl2⟩; have hb2 : Below w.heap.size w w2 := hb1.trans (hl2.mono hb1.size); have hcm1 := (hl2.cell (p := ⟨w.heap.size, 1, none⟩) (Nat.lt_of_lt_of_le (by simp) hs1)).trans hcl1)
    | (go_at_call 66; refine (HTR.out _ hb2).mono ?_; rintro e w3 ⟨rfl, hl3⟩))
   go_ret
   exact ⟨by first | rfl | (simp; done), (show Below w.heap.size w w2 from hb2).trans (hl3.mono hb2.size)⟩
theorem bnx_any (x : ty.Nx) (w : World) (hx : ty.wt1Nx x ≤ 1048576) (hT : wd.TabB w) :
  Calls Tryz.prog 100 #[.agg #[.string x.fName, .string x.fPath]] w fun e w' => e = .returned (.bool (!nxB x)) ∧ Below w.heap.size w w' := by
 have HIS : Hid (∀ W, Below w.heap.size w W → Calls Tryz.prog 223 #[.agg #[.string x.fName, .string x.fPath]] W fun e w' => e = .returned (.bool (nxB x)) ∧ Below W.heap.size W w') := fun W h => nxok_any x.fName x.fPath (by unfold ty.wt1Nx at hx; omega) (by unfold ty.wt1Nx at hx; omega) W (hT.below h)
 clear hT hx
 generalize x.fName = p at *
 generalize x.fPath = q at *
 generalize nxB x = r at *
 have hm : ∀ w, (method 359 92 (.agg #[.string p, .string q]) "loop.example/g00023/impl.isOk").run Tryz.prog w = .ok (223, .agg #[.string p, .string q]) w := fun _ => by kernel_rfl
 go_enter Tryz.func100, Tryz.ntmps100
 go_wp2_with (go_at_call 223; refine (HIS.out _ ((Below.refl _ _).alloc (Nat.le_refl _) _)).mono ?_; rintro e w1 ⟨rfl, hl1⟩)
 go_ret
 exact ⟨rfl, ((Below.refl _ _).alloc (Nat.le_refl _) _).trans (hl1.mono (by simp))⟩
theorem ixnx_any (lo : Nat) (a : Option Addr) (c : Nat) (l : List ty.Nx) (w : World) (hb : ty.SrcNx (some lo) w a l) (hw : ty.wtNx l ≤ 1048576) (hT : wd.TabB w) :
  Calls Tryz.prog 132 #[.slice a l.length c, .func (.func 100) #[] #[]] w fun e w' => (∃ r : Int, e = .returned (.int .i64 r) ∧ (0 ≤ r ∧ l.all nxB = false ∨ r = -1 ∧ l.all nxB = true)) ∧ Below w.heap.size w w' := by
 have hn : l.length ≤ 1048576 := by have := ty.wtNx_len l; omega
 have HR : Hid (ty.SrcNx (some lo) w a l) := hb
 have HC : Hid (∀ (x : ty.Nx) W, x ∈ l → Below w.heap.size w W → Calls Tryz.prog 100 #[.agg #[.string x.fName, .string x.fPath]] W fun e w' => e = .returned (.bool (!nxB x)) ∧ Below W.heap.size W w') := fun x W hx hW => bnx_any x W (by have := ty.wtNx_mem hx; omega) (hT.below hW)
 have HNO : Hid (∀ (i : Nat) (x : ty.Nx), l[i]? = some x → nxB x = false → l.all nxB = false) := fun i x hx h => by
  rw [List.all_eq_false]
  exact ⟨x, List.mem_of_getElem? hx, by rw [h]; decide⟩
 have HYE : Hid ((∀ (i : Nat) (x : ty.Nx), i < l.length → l[i]? = some x → nxB x = true) → l.all nxB = true) := fun h => by
  rw [List.all_eq_true]
  intro x hx
  obtain ⟨i, hi⟩ := List.getElem?_of_mem hx
  exact h i x (List.getElem?_eq_some_iff.1 hi).1 hi
 obtain ⟨V, hV⟩ : ∃ V, l.all nxB = V := ⟨_, rfl⟩
 rw [hV] at HNO HYE ⊢
 obtain ⟨n, hnn⟩ : ∃ n, l.length = n := ⟨_, rfl⟩
 have HNN : Hid (l.length = n) := hnn
 rw [hnn] at hn HYE ⊢
 clear hb hT hw hnn hV
 go_enter Tryz.func132, Tryz.ntmps132
 go_wp2
 go_loopw [5, 8] (fun _ y wr => ∃ i : Nat, i ≤ n ∧ y = .int .i64 (i : Int) ∧ (∀ (j : Nat) (y : ty.Nx), j < i → l[j]? = some y → nxB y = true) ∧ Below w.heap.size w wr) (fun _ y _ => n - (intOf y).toNat)
 case atStart => exact ⟨0, Nat.zero_le _, rfl, fun j y h => by omega, Below.refl _ _⟩
 case round =>
  obtain ⟨i, hi, rfl, h1, hbel⟩ := hrel
  have H1 := Lib.hid h1
  have HBE : Hid (Below w.heap.size w wr) := hbel
  clear h1
  by_cases hin : i < n
  ·have hin' : (i : Int) < (n : Int) := by omega
   have hi0 : (0 : Int) ≤ (i : Int) := by omega
   obtain ⟨x, hx⟩ : ∃ x, l[i]? = some x := ⟨_, List.getElem?_eq_getElem (by rw [HNN.out]; exact hin)⟩
   rcases HR.out with h | ⟨b, o, rfl, _, hc⟩
   ·cases h.1
   obtain ⟨q0, q1⟩ := (hc i x hx).below hbel
   have HX : Hid (l[i]? = some x) := hx
   have HCM : Hid (Calls Tryz.prog 100 #[.agg #[.string x.fName, .string x.fPath]] wr fun e w' => e = .returned (.bool (!nxB x)) ∧ Below wr.heap.size wr w') := HC.out x wr (List.mem_of_getElem? hx) hbel
   obtain ⟨g0, hg0⟩ : ∃ z, x.fName = z := ⟨_, rfl⟩
   rw [hg0] at q0 HCM
   obtain ⟨g1, hg1⟩ : ∃ z, x.fPath = z := ⟨_, rfl⟩
   rw [hg1] at q1 HCM
   clear hg0 hg1 hbel hc hx
   cases hp : nxB x with
   | false =>
    rw [hp, Bool.not_false] at HCM
    have HF : Hid (V = false) := HNO.out i x HX.out hp
    clear hp
    go_wp2_with (go_at_call 100; refine HCM.out.mono ?_; rintro e w1 ⟨rfl, hl1⟩)
    go_ret
    exact ⟨⟨_, rfl, .inl ⟨hi0, HF.out⟩⟩, HBE.out.trans (hl1.mono HBE.out.size)⟩
   | true =>
    rw [hp, Bool.not_true] at HCM
    have HN : Hid (∀ (j : Nat) (y : ty.Nx), j < i + 1 → l[j]? = some y → nxB y = true) := fun j y hj hy => by
     rcases Nat.lt_or_ge j i with h | h
     ·exact H1.out j y h hy
     ·obtain rfl : j = i := by omega
      rw [HX.out] at hy
      cases hy
      exact hp
    clear hp
    go_wp2_with (go_at_call 100; refine HCM.out.mono ?_; rintro e w1 ⟨rfl, hl1⟩)
    go_roundw
    case rel => exact ⟨i + 1, by omega, by go_num, HN.out, HBE.out.trans (hl1.mono HBE.out.size)⟩
    case measure => simp [intOf] <;> omega
  ·have hin' : ¬ (i : Int) < (n : Int) := by omega
   obtain rfl : i = n := by omega
   have HF : Hid (V = true) := HYE.out H1.out
   clear hbel
   go_wp2
   go_ret
   exact ⟨⟨_, rfl, .inr ⟨rfl, HF.out⟩⟩, HBE.out⟩
theorem connx_any (lo : Nat) (a : Option Addr) (c : Nat) (l : List ty.Nx) (w : World) (hb : ty.SrcNx (some lo) w a l) (hw : ty.wtNx l ≤ 1048576) (hT : wd.TabB w) :
  Calls Tryz.prog 99 #[.slice a l.length c, .func (.func 100) #[] #[]] w fun e w' => e = .returned (.bool (!l.all nxB)) ∧ Below w.heap.size w w' := by
 have HC : Hid (∀ W : World, W = w → Calls Tryz.prog 132 #[.slice a l.length c, .func (.func 100) #[] #[]] W fun e w' => (∃ r : Int, e = .returned (.int .i64 r) ∧ (0 ≤ r ∧ l.all nxB = false ∨ r = -1 ∧ l.all nxB = true)) ∧ Below W.heap.size W w') := fun W h => by subst h; exact ixnx_any lo a c l W hb hw hT
 clear hb hw hT
 generalize l.length = n at *
 generalize l.all nxB = V at *
 go_enter Tryz.func99, Tryz.ntmps99
 go_wp2_with (go_at_call 132; refine (HC.out _ rfl).mono ?_; rintro e w1 ⟨⟨r, rfl, hr⟩, hl1⟩)
 go_ret
 refine ⟨?_, hl1⟩
 rcases hr with ⟨h1, h2⟩ | ⟨h1, h2⟩
 ·rw [h2]
  simp [h1]
 ·rw [h2]
  subst h1
  simp
theorem begNx_any (lo : Nat) (a : Option Addr) (c : Nat) (l : List ty.Nx) (w : World) (hb : ty.SrcNx (some lo) w a l) (hw : ty.wtNx l ≤ 1048576) (hT : wd.TabB w) :
  Calls Tryz.prog 60 #[.slice a l.length c] w fun e w' => e = .returned (.bool (begN l)) ∧ Below w.heap.size w w' := by
 have hn : l.length ≤ 1048576 := by have := ty.wtNx_len l; omega
 have HC : Hid (∀ W : World, W = w → Calls Tryz.prog 99 #[.slice a l.length c, .func (.func 100) #[] #[]] W fun e w' => e = .returned (.bool (!l.all nxB)) ∧ Below W.heap.size W w') := fun W h => by subst h; exact connx_any lo a c l W hb hw hT
 unfold begN
 clear hb hw hT
 generalize l.length = n at *
 generalize l.all nxB = V at *
 by_cases h20 : n ≤ 20
 ·have h20' : (n : Int) ≤ 20 := by omega
  rw [decide_eq_true h20]
  go_enter Tryz.func60, Tryz.ntmps60
  go_wp2_with (go_at_call 99; refine (HC.out _ rfl).mono ?_; rintro e w1 ⟨rfl, hl1⟩)
  go_ret
  exact ⟨by simp, hl1⟩
 ·have h20' : ¬ (n : Int) ≤ 20 := by omega
  rw [decide_eq_false h20]
  go_enter Tryz.func60, Tryz.ntmps60
  go_wp2
  go_ret
  exact ⟨by simp, Below.refl _ _⟩
theorem bpe_any (x : ty.Pe) (lo : Nat) (a1 : Option Addr) (c1 : Nat) (w : World) (hx : ty.wt1Pe x ≤ 1048576) (hs : ty.SrcEt (some lo) w a1 x.fTree) (hT : wd.TabB w) (hm : tt.ML w) :
  Calls Tryz.prog 98 #[.agg #[.string x.fPath, .slice a1 x.fTree.length c1, .string x.fFrom]] w fun e w' => e = .returned (.bool (!peB x)) ∧ Below w.heap.size w w' := by
 have HTR : Hid (∀ W, Below w.heap.size w W → Calls Tryz.prog 66 #[.slice a1 x.fTree.length c1] W fun e w' => e = .returned (.bool (tt.treeB (enT x.fTree) x.fTree.length)) ∧ Below W.heap.size W w') := fun W h => by
  rcases hs.below h with h0 | ⟨b1, o1, rfl, _, hc1⟩
  ·cases h0.1
  have hwe : ty.wtEt x.fTree ≤ 1048576 := by unfold ty.wt1Pe at hx; omega
  have hle := ty.wtEt_len x.fTree
  exact tt.itree_any (enT x.fTree) b1 o1 x.fTree.length c1 W (src_enr hc1) (small_enr hwe) (by omega) (hm.below h) (tt.at_any _)
 have HIS : Hid (∀ W, Below w.heap.size w W → Calls Tryz.prog 222 #[.agg #[.string x.fPath, .slice a1 x.fTree.length c1, .string x.fFrom]] W fun e w' => e = .returned (.bool (peB x)) ∧ Below W.heap.size W w') := fun W h => peok_any x.fPath x.fFrom a1 x.fTree.length c1 _ (by unfold ty.wt1Pe at hx; omega) (by unfold ty.wt1Pe at hx; omega) W (hT.below h) fun W' h' => HTR.out W' (h.trans (h'.mono h.size))
 clear hT hx hs hm HTR
 generalize x.fPath = p at *
 generalize x.fFrom = q at *
 generalize x.fTree.length = n1 at *
 generalize peB x = r at *
 have hm : ∀ w, (method 359 90 (.agg #[.string p, .slice a1 n1 c1, .string q]) "loop.example/g00023/impl.isOk").run Tryz.prog w = .ok (222, .agg #[.string p, .slice a1 n1 c1, .string q]) w := fun _ => by kernel_rfl
 go_enter Tryz.func98, Tryz.ntmps98
 go_wp2_with (go_at_call 222; refine (HIS.out _ ((Below.refl _ _).alloc (Nat.le_refl _) _)).mono ?_; rintro e w1 ⟨rfl, hl1⟩)
 go_ret
 exact ⟨rfl, ((Below.refl _ _).alloc (Nat.le_refl _) _).trans (hl1.mono (by simp))⟩
theorem ixpe_any (lo : Nat) (a : Option Addr) (c : Nat) (l : List ty.Pe) (w : World) (hb : ty.SrcPe (some lo) w a l) (hw : ty.wtPe l ≤ 1048576) (hT : wd.TabB w) (hm : tt.ML w) :
  Calls Tryz.prog 131 #[.slice a l.length c, .func (.func 98) #[] #[]] w fun e w' => (∃ r : Int, e = .returned (.int .i64 r) ∧ (0 ≤ r ∧ l.all peB = false ∨ r = -1 ∧ l.all peB = true)) ∧ Below w.heap.size w w' := by
 have hn : l.length ≤ 1048576 := by have := ty.wtPe_len l; omega
 have HR : Hid (ty.SrcPe (some lo) w a l) := hb
 have HC : Hid (∀ (x : ty.Pe) (a1 : Option Addr) (c1 : Nat) W, x ∈ l → Below w.heap.size w W → ty.SrcEt (some lo) W a1 x.fTree → Calls Tryz.prog 98 #[.agg #[.string x.fPath, .slice a1 x.fTree.length c1, .string x.fFrom]] W fun e w' => e = .returned (.bool (!peB x)) ∧ Below W.heap.size W w') := fun x a1 c1 W hx hW hs => bpe_any x lo a1 c1 W (by have := ty.wtPe_mem hx; omega) hs (hT.below hW) (hm.below hW)
 have HNO : Hid (∀ (i : Nat) (x : ty.Pe), l[i]? = some x → peB x = false → l.all peB = false) := fun i x hx h => by
  rw [List.all_eq_false]
  exact ⟨x, List.mem_of_getElem? hx, by rw [h]; decide⟩
 have HYE : Hid ((∀ (i : Nat) (x : ty.Pe), i < l.length → l[i]? = some x → peB x = true) → l.all peB = true) := fun h => by
  rw [List.all_eq_true]
  intro x hx
  obtain ⟨i, hi⟩ := List.getElem?_of_mem hx
  exact h i x (List.getElem?_eq_some_iff.1 hi).1 hi
 obtain ⟨V, hV⟩ : ∃ V, l.all peB = V := ⟨_, rfl⟩
 rw [hV] at HNO HYE ⊢
 obtain ⟨n, hnn⟩ : ∃ n, l.length = n := ⟨_, rfl⟩
 have HNN : Hid (l.length = n) := hnn
 rw [hnn] at hn HYE ⊢
 clear hb hT hm hw hnn hV
 go_enter Tryz.func131, Tryz.ntmps131
 go_wp2
 go_loopw [5, 8] (fun _ y wr => ∃ i : Nat, i ≤ n ∧ y = .int .i64 (i : Int) ∧ (∀ (j : Nat) (y : ty.Pe), j < i → l[j]? = some y → peB y = true) ∧ Below w.heap.size w wr) (fun _ y _ => n - (intOf y).toNat)
 case atStart => exact ⟨0, Nat.zero_le _, rfl, fun j y h => by omega, Below.refl _ _⟩
 case round =>
  obtain ⟨i, hi, rfl, h1, hbel⟩ := hrel
  have H1 := Lib.hid h1
  have HBE : Hid (Below w.heap.size w wr) := hbel
  clear h1
  by_cases hin : i < n
  ·have hin' : (i : Int) < (n : Int) := by omega
   have hi0 : (0 : Int) ≤ (i : Int) := by omega
   obtain ⟨x, hx⟩ : ∃ x, l[i]? = some x := ⟨_, List.getElem?_eq_getElem (by rw [HNN.out]; exact hin)⟩
   rcases HR.out with h | ⟨b, o, rfl, _, hc⟩
   ·cases h.1
   obtain ⟨a1, c1, q0, q1, q2, s1, t1⟩ := (hc i x hx).below hbel
   have HX : Hid (l[i]? = some x) := hx
   have HCM : Hid (Calls Tryz.prog 98 #[.agg #[.string x.fPath, .slice a1 x.fTree.length c1, .string x.fFrom]] wr fun e w' => e = .returned (.bool (!peB x)) ∧ Below wr.heap.size wr w') := HC.out x a1 c1 wr (List.mem_of_getElem? hx) hbel s1
   obtain ⟨g0, hg0⟩ : ∃ z, x.fPath = z := ⟨_, rfl⟩
   rw [hg0] at q0 HCM
   obtain ⟨g1, hg1⟩ : ∃ z, x.fTree.length = z := ⟨_, rfl⟩
   rw [hg1] at q1 HCM
   obtain ⟨g2, hg2⟩ : ∃ z, x.fFrom = z := ⟨_, rfl⟩
   rw [hg2] at q2 HCM
   clear hg0 hg1 hg2 s1 t1 hbel hc hx
   cases hp : peB x with
   | false =>
    rw [hp, Bool.not_false] at HCM
    have HF : Hid (V = false) := HNO.out i x HX.out hp
    clear hp
    go_wp2_with (go_at_call 98; refine HCM.out.mono ?_; rintro e w1 ⟨rfl, hl1⟩)
    go_ret
    exact ⟨⟨_, rfl, .inl ⟨hi0, HF.out⟩⟩, HBE.out.trans (hl1.mono HBE.out.size)⟩
   | true =>
    rw [hp, Bool.not_true] at HCM
    have HN : Hid (∀ (j : Nat) (y : ty.Pe), j < i + 1 → l[j]? = some y → peB y = true) := fun j y hj hy => by
     rcases Nat.lt_or_ge j i with h | h
     ·exact H1.out j y h hy
     ·obtain rfl : j = i := by omega
      rw [HX.out] at hy
      cases hy
      exact hp
    clear hp
    go_wp2_with (go_at_call 98; refine HCM.out.mono ?_; rintro e w1 ⟨rfl, hl1⟩)
    go_roundw
    case rel => exact ⟨i + 1, by omega, by go_num, HN.out, HBE.out.trans (hl1.mono HBE.out.size)⟩
    case measure => simp [intOf] <;> omega
  ·have hin' : ¬ (i : Int) < (n : Int) := by omega
   obtain rfl : i = n := by omega
   have HF : Hid (V = true) := HYE.out H1.out
   clear hbel
   go_wp2
   go_ret
   exact ⟨⟨_, rfl, .inr ⟨rfl, HF.out⟩⟩, HBE.out⟩
theorem conpe_any (lo : Nat) (a : Option Addr) (c : Nat) (l : List ty.Pe) (w : World) (hb : ty.SrcPe (some lo) w a l) (hw : ty.wtPe l ≤ 1048576) (hT : wd.TabB w) (hm : tt.ML w) :
  Calls Tryz.prog 97 #[.slice a l.length c, .func (.func 98) #[] #[]] w fun e w' => e = .returned (.bool (!l.all peB)) ∧ Below w.heap.size w w' := by
 have HC : Hid (∀ W : World, W = w → Calls Tryz.prog 131 #[.slice a l.length c, .func (.func 98) #[] #[]] W fun e w' => (∃ r : Int, e = .returned (.int .i64 r) ∧ (0 ≤ r ∧ l.all peB = false ∨ r = -1 ∧ l.all peB = true)) ∧ Below W.heap.size W w') := fun W h => by subst h; exact ixpe_any lo a c l W hb hw hT hm
 clear hb hw hT hm
 generalize l.length = n at *
 generalize l.all peB = V at *
 go_enter Tryz.func97, Tryz.ntmps97
 go_wp2_with (go_at_call 131; refine (HC.out _ rfl).mono ?_; rintro e w1 ⟨⟨r, rfl, hr⟩, hl1⟩)
 go_ret
 refine ⟨?_, hl1⟩
 rcases hr with ⟨h1, h2⟩ | ⟨h1, h2⟩
 ·rw [h2]
  simp [h1]
 ·rw [h2]
  subst h1
  simp
theorem begPe_any (lo : Nat) (a : Option Addr) (c : Nat) (l : List ty.Pe) (w : World) (hb : ty.SrcPe (some lo) w a l) (hw : ty.wtPe l ≤ 1048576) (hT : wd.TabB w) (hm : tt.ML w) :
  Calls Tryz.prog 59 #[.slice a l.length c] w fun e w' => e = .returned (.bool (begP l)) ∧ Below w.heap.size w w' := by
 have hn : l.length ≤ 1048576 := by have := ty.wtPe_len l; omega
 have HC : Hid (∀ W : World, W = w → Calls Tryz.prog 97 #[.slice a l.length c, .func (.func 98) #[] #[]] W fun e w' => e = .returned (.bool (!l.all peB)) ∧ Below W.heap.size W w') := fun W h => by subst h; exact conpe_any lo a c l W hb hw hT hm
 unfold begP
 clear hb hw hT hm
 generalize l.length = n at *
 generalize l.all peB = V at *
 by_cases h20 : n ≤ 20
 ·have h20' : (n : Int) ≤ 20 := by omega
  rw [decide_eq_true h20]
  go_enter Tryz.func59, Tryz.ntmps59
  go_wp2_with (go_at_call 97; refine (HC.out _ rfl).mono ?_; rintro e w1 ⟨rfl, hl1⟩)
  go_ret
  exact ⟨by simp, hl1⟩
 ·have h20' : ¬ (n : Int) ≤ 20 := by omega
  rw [decide_eq_false h20]
  go_enter Tryz.func59, Tryz.ntmps59
  go_wp2
  go_ret
  exact ⟨by simp, Below.refl _ _⟩
end Go.Proofs.YthbgpfjbfkiljaaGreatDoor.so
