import Derived.Test.YtpfnnjfapcnbnaaGreatDoorYDp
import Derived.Deep.RegionHeld3
set_option linter.unusedVariables false
set_option linter.unusedSimpArgs false
set_option maxRecDepth 100000
set_option maxHeartbeats 16000000
namespace Go.Proofs.YtpfnnjfapcnbnaaGreatDoor.ty
open Go.ChangeShapes Go.WideShapes Go.ChangeAt Go.RowKit Go.Deep
def Md (lo hi : Nat) (w w' : World) : Prop := (w'.os = w.os ∧ w'.tape = w.tape ∧ w'.output = w.output) ∧ w.heap.size ≤ w'.heap.size ∧ ∀ j, j < w.heap.size → (j < lo ∨ hi ≤ j) → w'.heap[j]? = w.heap[j]?
theorem Md.refl (lo hi : Nat) (w : World) : Md lo hi w w := ⟨⟨rfl, rfl, rfl⟩, Nat.le_refl _, fun _ _ _ => rfl⟩
theorem Md.trans {lo hi : Nat} {A B C : World} (h : Md lo hi A B) (k : Md lo hi B C) : Md lo hi A C := ⟨⟨k.1.1.trans h.1.1, k.1.2.1.trans h.1.2.1, k.1.2.2.trans h.1.2.2⟩, Nat.le_trans h.2.1 k.2.1, fun j hj e => (k.2.2 j (Nat.lt_of_lt_of_le hj h.2.1) e).trans (h.2.2 j hj e)⟩
theorem Md.toBelow {lo hi B : Nat} {w w' : World} (h : Md lo hi w w') (hB : B ≤ lo) (hs : B ≤ w.heap.size) : Below B w w' := ⟨h.1.1, h.1.2.1, h.1.2.2, h.2.1, fun j hj => h.2.2 j (by omega) (.inl (by omega))⟩
def Fr (b s e : Nat) (w w' : World) : Prop := (w'.os = w.os ∧ w'.tape = w.tape ∧ w'.output = w.output) ∧ w.heap.size ≤ w'.heap.size ∧ ∀ j, j < w.heap.size → j ≠ b → (j < s ∨ e ≤ j) → w'.heap[j]? = w.heap[j]?
theorem Fr.refl (b s e : Nat) (w : World) : Fr b s e w w := ⟨⟨rfl, rfl, rfl⟩, Nat.le_refl _, fun _ _ _ _ => rfl⟩
theorem Fr.trans {b s e : Nat} {A B C : World} (h : Fr b s e A B) (k : Fr b s e B C) : Fr b s e A C := ⟨⟨k.1.1.trans h.1.1, k.1.2.1.trans h.1.2.1, k.1.2.2.trans h.1.2.2⟩, Nat.le_trans h.2.1 k.2.1, fun j hj e1 e2 => (k.2.2 j (Nat.lt_of_lt_of_le hj h.2.1) e1 e2).trans (h.2.2 j hj e1 e2)⟩
theorem Fr.below {b s e : Nat} {A B C : World} (h : Fr b s e A B) (k : Below B.heap.size B C) : Fr b s e A C := h.trans ⟨⟨k.os, k.tape, k.output⟩, k.size, fun j hj _ _ => k.block j hj⟩
theorem Fr.set {b s e : Nat} {A B : World} (h : Fr b s e A B) (p : Nat) (x : Value) : Fr b s e A (B.setCell ⟨b, p, none⟩ x) :=
 h.trans ⟨⟨rfl, rfl, rfl⟩, by simp, fun j hj e _ => by simp only [World.setCell]; rw [Array.getElem?_modify, if_neg (fun h => e h.symm)]⟩
theorem Fr.md {b s e s' e' : Nat} {A B C : World} (h : Fr b s e A B) (k : Md s' e' B C) (h1 : s ≤ s') (h2 : e' ≤ e) : Fr b s e A C := h.trans ⟨k.1, k.2.1, fun j hj _ e => k.2.2 j hj (by omega)⟩
theorem Fr.to {b s e lo hi : Nat} {A B : World} (h : Fr b s e A B) (h1 : lo ≤ b) (h2 : b < hi) (h3 : lo ≤ s) (h4 : e ≤ hi) : Md lo hi A B := ⟨h.1, h.2.1, fun j hj e => h.2.2 j hj (by omega) (by omega)⟩
theorem sb {W : World} {b p q : Nat} {v : Value} (h : q ≠ b) : (W.setCell ⟨b, p, none⟩ v).heap[q]? = W.heap[q]? := by simp only [World.setCell]; rw [Array.getElem?_modify, if_neg (fun e => h e.symm)]
theorem kp_below {b s e : Nat} {cur X w' : World} (hX : ∀ p, p ≠ b → X.heap[p]? = cur.heap[p]?) (hz : cur.heap.size ≤ X.heap.size) (hb : Below X.heap.size X w') (he : e ≤ cur.heap.size) (hbs : b < s ∨ e ≤ b) : ∀ p, s ≤ p → p < e → w'.heap[p]? = cur.heap[p]? :=
 fun p h1 h2 => (hb.block p (by omega)).trans (hX p (by omega))
def up (f : Nat → Value) (p : Nat) (v : Value) : Nat → Value := fun j => if j = p then v else f j
theorem up_same (f : Nat → Value) (p : Nat) (v : Value) : up f p v p = v := by unfold up; rw [if_pos rfl]
theorem up_at {f : Nat → Value} {p q : Nat} {v : Value} (h : q = p) : up f p v q = v := by subst h; exact up_same _ _ _
theorem up_oth {f : Nat → Value} {p q : Nat} {v : Value} (h : q ≠ p) : up f p v q = f q := by unfold up; rw [if_neg h]
theorem row_up {w : World} {b t N : Nat} {f : Nat → Value} (h : w.rowIs b t N f) (p : Nat) (v : Value) : (w.setCell ⟨b, p, none⟩ v).rowIs b t N (up f p v) := h.set p v
def mkS (k : Nat) (l : List ByteArray) : List ByteArray := l.mapIdx fun i _ => sr.mark (k + i)
theorem mkS_len (k : Nat) (l : List ByteArray) : (mkS k l).length = l.length := by simp [mkS]
theorem mkS_at {k : Nat} {l : List ByteArray} {i : Nat} {x : ByteArray} (h : l[i]? = some x) : (mkS k l)[i]? = some (sr.mark (k + i)) := by simp [mkS, h]
theorem heldS_any (a : Option Addr) (c : Nat) (l : List ByteArray) (k0 : Nat) (w : World) (hR : SrcS none w a (mkS k0 l)) (h0 : 0 < k0) (hk : k0 + cnS l ≤ 100000000) :
  Calls Tryz.prog 64 #[.slice a l.length c, .int .i64 (k0 : Int)] w fun e w' => e = .returned (.int .i64 ((k0 + cnS l : Nat) : Int)) ∧ Below w.heap.size w w' := by
 have HER : Hid (SrcS none w a (mkS k0 l)) := hR
 unfold cnS at hk ⊢
 obtain ⟨n, hn⟩ : ∃ n, l.length = n := ⟨_, rfl⟩
 have HNN : Hid (l.length = n) := hn
 rw [hn] at hk ⊢
 clear hR hn
 go_enter Tryz.func64, Tryz.ntmps64
 go_wp2
 go_loopw [1, 5] (fun v x wr => ∃ (i : Nat), i ≤ n ∧ x = .int .i64 (i : Int) ∧ v = .int .i64 ((k0 + i : Nat) : Int) ∧ Below w.heap.size w wr) (fun _ x _ => n - (intOf x).toNat)
 case atStart => exact ⟨0, Nat.zero_le _, rfl, rfl, Below.refl _ _⟩
 case round =>
  obtain ⟨i, hi, rfl, rfl, hbel⟩ := hrel
  by_cases h : i < n
  ·have h' : (i : Int) < (n : Int) := by omega
   have HBB : Hid (Below w.heap.size w wr) := hbel
   obtain ⟨x, hx⟩ : ∃ x, l[i]? = some x := ⟨_, List.getElem?_eq_getElem (by rw [HNN.out]; exact h)⟩
   rcases HER.out with he | ⟨b, o, rfl, _, hc⟩
   ·have := congrArg List.length he.2; rw [mkS_len, HNN.out] at this; simp at this; omega
   have hcl := hc i _ (mkS_at hx)
   obtain ⟨K, hK⟩ : ∃ K : Nat, k0 + i = K := ⟨_, rfl⟩
   rw [hK] at hcl
   have HKK : Hid (k0 + i = K) := hK
   rw [hK]
   have hKb : K ≤ 100000000 := by omega
   have hK0 : 0 < K := by omega
   have HM1 := Lib.hid fun (W : World) => sr.mark_any K hK0 (by omega) W
   obtain ⟨s, hs⟩ : ∃ s, sr.mark K = s := ⟨_, rfl⟩
   rw [hs] at HM1 hcl
   have HCd : Hid (∀ W, Below w.heap.size w W → W.cell? ⟨b, o + i, none⟩ = some (.string s)) := fun W hW => (hW.cell (p := ⟨b, o + i, none⟩) (World.block_lt_of_cell? _ _ hcl)).trans hcl
   clear hs hK hcl hc hx hbel
   have d1 := HCd.out wr HBB.out
   go_wp2_with fail
   go_region_held3 (fun w' => w'.cell? ⟨b, o + i, none⟩ = some (.string s))
    (first
     | go_keep
     | exact HCd.out _ (HBB.out.drew.trans (hb1.mono HBB.out.size)))
    (first | ((go_at_call 62; refine (HM1.out _).mono ?_; rintro e w1 ⟨rfl, hb1⟩)))
   have HB1 : Hid (Below w.heap.size w w1) := HBB.out.drew.trans (hb1.mono HBB.out.size)
   clear hb1 d1
   go_wp2_with fail
   go_roundw
   case rel => exact ⟨i + 1, by omega, by go_num, by rw [← Nat.add_assoc, HKK.out]; go_num, HB1.out⟩
   case measure => simp [intOf]; omega
  ·have h' : ¬ (i : Int) < (n : Int) := by omega
   obtain rfl : i = n := by omega
   go_wp2
   go_ret
   exact ⟨rfl, hbel⟩
def mk1Et (k : Nat) (x : Et) : Et := ⟨sr.mark (k), ((k + 1 : Nat) : Int), sr.mark (k + 2), decide (((k + 3 : Nat) : Int) % 3 = 0)⟩
def mkEt (k : Nat) (l : List Et) : List Et := l.mapIdx fun i x => mk1Et (k + cnkEt l i) x
theorem mkEt_len (k : Nat) (l : List Et) : (mkEt k l).length = l.length := by simp [mkEt]
theorem mkEt_at {k : Nat} {l : List Et} {i : Nat} {x : Et} (h : l[i]? = some x) : (mkEt k l)[i]? = some (mk1Et (k + cnkEt l i) x) := by simp [mkEt, h]
theorem mkEt_of {k : Nat} {l : List Et} {i : Nat} {y : Et} (h : (mkEt k l)[i]? = some y) : ∃ x, l[i]? = some x ∧ y = mk1Et (k + cnkEt l i) x := by
 have hi := (List.getElem?_eq_some_iff.1 h).1
 rw [mkEt_len] at hi
 have hx := List.getElem?_eq_getElem hi
 rw [mkEt_at hx] at h
 exact ⟨_, hx, (Option.some.inj h).symm⟩
def E1Et (lo hi : Nat) (w : World) (g : Nat → Value) (x : Et) : Prop := g 0 = .string x.fPath ∧ g 1 = .int .i64 x.fKind ∧ g 2 = .string x.fData ∧ g 3 = .bool x.fExec
theorem E1Et.kept {lo hi : Nat} {w w' : World} {g g' : Nat → Value} {x : Et} (h : E1Et lo hi w g x) (hg : ∀ r, r < 4 → g' r = g r) (hk : ∀ p, lo ≤ p → p < hi → w'.heap[p]? = w.heap[p]?) : E1Et lo hi w' g' x := by
 obtain ⟨q0, q1, q2, q3⟩ := h
 exact ⟨(hg 0 (by omega)).trans q0, (hg 1 (by omega)).trans q1, (hg 2 (by omega)).trans q2, (hg 3 (by omega)).trans q3⟩
def GEt (lo hi : Nat) (w : World) (a : Option Addr) (l : List Et) : Prop := ∃ b o t N f, ∃ s e : Nat → Nat, a = some ⟨b, o, none⟩ ∧ lo ≤ b ∧ b < hi ∧ w.rowIs b t N f ∧ o + l.length * 4 ≤ N ∧ (∀ (i : Nat) (x : Et), l[i]? = some x → lo ≤ s i ∧ e i ≤ hi ∧ (b < s i ∨ e i ≤ b) ∧ E1Et (s i) (e i) w (fun r => f (o + i * 4 + r)) x) ∧ (∀ i j, i < j → j < l.length → e i ≤ s j ∨ e j ≤ s i)
theorem GEt.kept {lo hi : Nat} {w w' : World} {a : Option Addr} {l : List Et} (h : GEt lo hi w a l) (hk : ∀ p, lo ≤ p → p < hi → w'.heap[p]? = w.heap[p]?) : GEt lo hi w' a l := by
 obtain ⟨b, o, t, N, f, s, e, h0, h1, h2, h3, h4, h5, h6⟩ := h
 exact ⟨b, o, t, N, f, s, e, h0, h1, h2, h3.of_block (hk b h1 h2), h4, fun i x hx => by
  obtain ⟨k1, k2, k3, k4⟩ := h5 i x hx
  exact ⟨k1, k2, k3, k4.kept (fun _ _ => rfl) fun p g1 g2 => hk p (by omega) (by omega)⟩, h6⟩
theorem GEt.src {lo hi : Nat} {w : World} {a : Option Addr} {l : List Et} (h : GEt lo hi w a l) : SrcEt none w a l := by
 obtain ⟨b, o, t, N, f, s, e, h0, h1, h2, h3, h4, h5, h6⟩ := h
 refine .inr ⟨b, o, h0, Okb.free _ _, fun i x hx => ?_⟩
 have hi := (List.getElem?_eq_some_iff.1 hx).1
 obtain ⟨k1, k2, k3, k4⟩ := h5 i x hx
 obtain ⟨q0, q1, q2, q3⟩ := k4
 exact ⟨(h3.cell (i := o + i * 4) (by omega)).trans (congrArg some q0), (h3.cell (i := o + i * 4 + 1) (by omega)).trans (congrArg some q1), (h3.cell (i := o + i * 4 + 2) (by omega)).trans (congrArg some q2), (h3.cell (i := o + i * 4 + 3) (by omega)).trans (congrArg some q3)⟩
theorem markGEt_any (lo hi : Nat) (a : Option Addr) (c : Nat) (l : List Et) (k0 : Nat) (w : World) (hG : GEt lo hi w a l) (hhi : hi ≤ w.heap.size) (h0 : 0 < k0) (hk : k0 + cnEt l ≤ 100000000) :
  Calls Tryz.prog 20 #[.slice a l.length c, .int .i64 (k0 : Int)] w fun e w' => e = .returned (.int .i64 ((k0 + cnEt l : Nat) : Int)) ∧ GEt lo hi w' a (mkEt k0 l) ∧ Md lo hi w w' := by
 obtain ⟨b, o, t, N, f0, s, e, rfl, hl, hh, hrow, hN, hel, hdis⟩ := hG
 have HRZ : Hid (w.rowIs b t N f0) := hrow
 have HEZ := Lib.hid hel
 have HDI := Lib.hid hdis
 have HCL := Lib.hid (cnkEt_le l)
 have HKL : Hid (k0 + cnEt l ≤ 100000000) := hk
 clear hrow hel hdis hk
 obtain ⟨n, hn⟩ : ∃ n, l.length = n := ⟨_, rfl⟩
 have HN : Hid (l.length = n) := hn
 have hn9 : n ≤ 100000000 := by have h1 := cnEt_len l; have h2 := HKL.out; omega
 rw [hn] at hN ⊢
 clear hn
 go_enter Tryz.func20, Tryz.ntmps20
 go_wp2
 go_loopw [1, 5] (fun a x wr => ∃ (i : Nat) (f : Nat → Value), i ≤ n ∧ x = .int .i64 (i : Int) ∧ a = .int .i64 ((k0 + cnkEt l i : Nat) : Int) ∧ wr.rowIs b t N f ∧ (∀ (j : Nat) (y : Et), l[j]? = some y → E1Et (s j) (e j) wr (fun r => f (o + j * 4 + r)) (if j < i then mk1Et (k0 + cnkEt l j) y else y)) ∧ Md lo hi w wr) (fun _ x _ => n - (intOf x).toNat)
 case atStart => exact ⟨0, f0, Nat.zero_le _, rfl, by simp [cnkEt], HRZ.out, fun j y hy => (HEZ.out j y hy).2.2.2, Md.refl _ _ _⟩
 case round =>
  obtain ⟨i, f, hi', rfl, rfl, hrow, hel, hmd⟩ := hrel
  have HRW : Hid (wr.rowIs b t N f) := hrow
  have HEL := Lib.hid hel
  have HMD : Hid (Md lo hi w wr) := hmd
  have hhr : hi ≤ wr.heap.size := by have := hmd.2.1; omega
  clear hrow hel hmd
  by_cases h : i < n
  ·have h' : (i : Int) < (n : Int) := by omega
   have hi0 : (0 : Int) ≤ (i : Int) := by omega
   obtain ⟨x, hx⟩ : ∃ x, l[i]? = some x := ⟨_, List.getElem?_eq_getElem (by rw [HN.out]; exact h)⟩
   have HX : Hid (l[i]? = some x) := hx
   have HSU := Lib.hid (cnkEt_succ hx)
   obtain ⟨hs1, hs2, hs3, _⟩ := HEZ.out i x hx
   have hE := HEL.out i x hx
   rw [if_neg (Nat.lt_irrefl i)] at hE
   obtain ⟨q0, q1, q2, q3⟩ := hE
   have q0 : f (o + i * 4 + 0) = .string x.fPath := q0
   have q1 : f (o + i * 4 + 1) = .int .i64 x.fKind := q1
   have q2 : f (o + i * 4 + 2) = .string x.fData := q2
   have q3 : f (o + i * 4 + 3) = .bool x.fExec := q3

   have HF0 : Hid (Fr b (s i) (e i) wr wr) := Fr.refl _ _ _ _
   obtain ⟨K0, hK0⟩ : ∃ K : Nat, k0 + cnkEt l i = K := ⟨_, rfl⟩
   have HKK : Hid (k0 + cnkEt l i = K0) := hK0
   have HCB : Hid (K0 + cn1Et x ≤ 100000000) := by
    show _ ≤ _
    have h1 := HCL.out (i + 1)
    have h2 := HKL.out
    have h3 := HSU.out
    omega
   have hK0b : K0 ≤ 100000000 := by have := HCB.out; omega
   have hK0c : K0 + 4 ≤ 100000000 := by have h9 := HCB.out; unfold cn1Et at h9; omega
   have hK0p : 0 < K0 := by omega
   rw [hK0]
   clear hK0 hx
   have HM0 : Hid (∀ W, Calls Tryz.prog 62 #[.int .i64 ((K0 : Int))] W fun e w' => e = .returned (.string (sr.mark (K0))) ∧ Below W.heap.size W w') := fun W => by
    have := sr.mark_any (K0) (by omega) (by omega) W
    rwa [show ((K0 : Nat) : Int) = (K0 : Int) by omega] at this
   obtain ⟨y0, hy0⟩ : ∃ y, sr.mark (K0) = y := ⟨_, rfl⟩
   have HY0 : Hid (sr.mark (K0) = y0) := hy0
   rw [hy0] at HM0
   clear hy0
   go_wp2_with (go_at_call 62; refine (HM0.out _).mono ?_; rintro e w0 ⟨rfl, hb⟩; refine Hid.out ?_)
   refine Lib.hid ?_
   have HR1 : Hid (w0.rowIs b t N (f)) := HRW.out.of_block (hb.block b HRW.out.lt)
   have HF1 : Hid (Fr b (s i) (e i) wr w0) := HF0.out.below hb
   clear hb HM0 
   have g0 := HR1.out.cell (i := o + i * 4) (by omega)
   have z0 := HR1.out.frozen (o + i * 4)
   have HR2 : Hid ((w0.setCell ⟨b, o + i * 4, none⟩ (.string y0)).rowIs b t N (up (f) (o + i * 4) (.string y0))) := row_up HR1.out _ _
   have HF2 : Hid (Fr b (s i) (e i) wr (w0.setCell ⟨b, o + i * 4, none⟩ (.string y0))) := HF1.out.set _ _
   have g1 := HR1.out.cell (i := o + i * 4 + 1) (by omega)
   have z1 := HR1.out.frozen (o + i * 4 + 1)
   have HR3 : Hid (((w0.setCell ⟨b, o + i * 4, none⟩ (.string y0)).setCell ⟨b, o + i * 4 + 1, none⟩ (.int .i64 ((K0 : Int) + 1))).rowIs b t N (up (up (f) (o + i * 4) (.string y0)) (o + i * 4 + 1) (.int .i64 ((K0 : Int) + 1)))) := row_up HR2.out _ _
   have HF3 : Hid (Fr b (s i) (e i) wr ((w0.setCell ⟨b, o + i * 4, none⟩ (.string y0)).setCell ⟨b, o + i * 4 + 1, none⟩ (.int .i64 ((K0 : Int) + 1)))) := HF2.out.set _ _
   have HM2 : Hid (∀ W, Calls Tryz.prog 62 #[.int .i64 ((K0 : Int) + 1 + 1)] W fun e w' => e = .returned (.string (sr.mark (K0 + 2))) ∧ Below W.heap.size W w') := fun W => by
    have := sr.mark_any (K0 + 2) (by omega) (by omega) W
    rwa [show ((K0 + 2 : Nat) : Int) = (K0 : Int) + 1 + 1 by omega] at this
   obtain ⟨y2, hy2⟩ : ∃ y, sr.mark (K0 + 2) = y := ⟨_, rfl⟩
   have HY2 : Hid (sr.mark (K0 + 2) = y2) := hy2
   rw [hy2] at HM2
   clear hy2
   go_wp2_with (go_at_call 62; refine (HM2.out _).mono ?_; rintro e w2 ⟨rfl, hb⟩; refine Hid.out ?_)
   refine Lib.hid ?_
   have HR4 : Hid (w2.rowIs b t N (up (up (f) (o + i * 4) (.string y0)) (o + i * 4 + 1) (.int .i64 ((K0 : Int) + 1)))) := HR3.out.of_block (hb.block b HR3.out.lt)
   have HF4 : Hid (Fr b (s i) (e i) wr w2) := HF3.out.below hb
   clear hb HM2 g0 z0 g1 z1
   have g2 := HR4.out.cell (i := o + i * 4 + 2) (by omega)
   have z2 := HR4.out.frozen (o + i * 4 + 2)
   have HR5 : Hid ((w2.setCell ⟨b, o + i * 4 + 2, none⟩ (.string y2)).rowIs b t N (up (up (up (f) (o + i * 4) (.string y0)) (o + i * 4 + 1) (.int .i64 ((K0 : Int) + 1))) (o + i * 4 + 2) (.string y2))) := row_up HR4.out _ _
   have HF5 : Hid (Fr b (s i) (e i) wr (w2.setCell ⟨b, o + i * 4 + 2, none⟩ (.string y2))) := HF4.out.set _ _
   obtain ⟨y3, hy3⟩ : ∃ t, decide (((K0 : Int) + 1 + 1 + 1) % 3 = 0) = t := ⟨_, rfl⟩
   have hyb3 : (((K0 : Int) + 1 + 1 + 1) % 3 == 0) = y3 := by rw [← hy3]; rfl
   have HY3 := Lib.hid hy3
   have g3 := HR4.out.cell (i := o + i * 4 + 3) (by omega)
   have z3 := HR4.out.frozen (o + i * 4 + 3)
   have HR6 : Hid (((w2.setCell ⟨b, o + i * 4 + 2, none⟩ (.string y2)).setCell ⟨b, o + i * 4 + 3, none⟩ (.bool y3)).rowIs b t N (up (up (up (up (f) (o + i * 4) (.string y0)) (o + i * 4 + 1) (.int .i64 ((K0 : Int) + 1))) (o + i * 4 + 2) (.string y2)) (o + i * 4 + 3) (.bool y3))) := row_up HR5.out _ _
   have HF6 : Hid (Fr b (s i) (e i) wr ((w2.setCell ⟨b, o + i * 4 + 2, none⟩ (.string y2)).setCell ⟨b, o + i * 4 + 3, none⟩ (.bool y3))) := HF5.out.set _ _
   have HEN : Hid (E1Et (s i) (e i) ((w2.setCell ⟨b, o + i * 4 + 2, none⟩ (.string y2)).setCell ⟨b, o + i * 4 + 3, none⟩ (.bool y3)) (fun r => (up (up (up (up (f) (o + i * 4) (.string y0)) (o + i * 4 + 1) (.int .i64 ((K0 : Int) + 1))) (o + i * 4 + 2) (.string y2)) (o + i * 4 + 3) (.bool y3)) (o + i * 4 + r)) (mk1Et K0 x)) := ⟨(by show (up (up (up (up (f) (o + i * 4) (.string y0)) (o + i * 4 + 1) (.int .i64 ((K0 : Int) + 1))) (o + i * 4 + 2) (.string y2)) (o + i * 4 + 3) (.bool y3)) (o + i * 4 + 0) = .string (sr.mark (K0)); exact (up_oth (by omega)).trans ((up_oth (by omega)).trans ((up_oth (by omega)).trans ((up_at (by omega)).trans (congrArg Value.string (HY0.out.symm.trans (congrArg sr.mark (by  omega)))))))), (by show (up (up (up (up (f) (o + i * 4) (.string y0)) (o + i * 4 + 1) (.int .i64 ((K0 : Int) + 1))) (o + i * 4 + 2) (.string y2)) (o + i * 4 + 3) (.bool y3)) (o + i * 4 + 1) = .int .i64 (((K0 + 1 : Nat)) : Int); exact (up_oth (by omega)).trans ((up_oth (by omega)).trans ((up_at (by omega)).trans (congrArg (Value.int .i64) (by  omega))))), (by show (up (up (up (up (f) (o + i * 4) (.string y0)) (o + i * 4 + 1) (.int .i64 ((K0 : Int) + 1))) (o + i * 4 + 2) (.string y2)) (o + i * 4 + 3) (.bool y3)) (o + i * 4 + 2) = .string (sr.mark (K0 + 2)); exact (up_oth (by omega)).trans ((up_at (by omega)).trans (congrArg Value.string (HY2.out.symm.trans (congrArg sr.mark (by  omega)))))), (by show (up (up (up (up (f) (o + i * 4) (.string y0)) (o + i * 4 + 1) (.int .i64 ((K0 : Int) + 1))) (o + i * 4 + 2) (.string y2)) (o + i * 4 + 3) (.bool y3)) (o + i * 4 + 3) = .bool (decide (((K0 + 3 : Nat) : Int) % 3 = 0)); exact (up_at (by omega)).trans (congrArg Value.bool (HY3.out.symm.trans (by  rw [show (((K0 + 3 : Nat)) : Int) = (K0 : Int) + 1 + 1 + 1 by omega]))))⟩
   have HEA : Hid (∀ (j : Nat) (y : Et), l[j]? = some y → E1Et (s j) (e j) ((w2.setCell ⟨b, o + i * 4 + 2, none⟩ (.string y2)).setCell ⟨b, o + i * 4 + 3, none⟩ (.bool y3)) (fun r => (up (up (up (up (f) (o + i * 4) (.string y0)) (o + i * 4 + 1) (.int .i64 ((K0 : Int) + 1))) (o + i * 4 + 2) (.string y2)) (o + i * 4 + 3) (.bool y3)) (o + j * 4 + r)) (if j < i + 1 then mk1Et (k0 + cnkEt l j) y else y)) := fun j y hy => by
    by_cases hji : j = i
    ·subst hji
     have hxy : x = y := Option.some.inj (HX.out.symm.trans hy)
     rw [if_pos (by omega), HKK.out, ← hxy]
     exact HEN.out
    ·have hold := HEL.out j y hy
     rw [show (if j < i + 1 then mk1Et (k0 + cnkEt l j) y else y) = (if j < i then mk1Et (k0 + cnkEt l j) y else y) by by_cases hj2 : j < i <;> simp [hj2] <;> omega]
     have hjl := (List.getElem?_eq_some_iff.1 hy).1
     have hil : i < l.length := by rw [HN.out]; exact h
     obtain ⟨u1, u2, u3, _⟩ := HEZ.out j y hy
     have hdj : e i ≤ s j ∨ e j ≤ s i := by
      rcases Nat.lt_or_ge j i with h9 | h9
      ·exact (HDI.out j i h9 hil).symm
      ·exact HDI.out i j (by omega) hjl
     exact hold.kept (fun r hr => (by show (up (up (up (up (f) (o + i * 4) (.string y0)) (o + i * 4 + 1) (.int .i64 ((K0 : Int) + 1))) (o + i * 4 + 2) (.string y2)) (o + i * 4 + 3) (.bool y3)) (o + j * 4 + r) = f (o + j * 4 + r); exact (up_oth (by omega)).trans ((up_oth (by omega)).trans ((up_oth (by omega)).trans ((up_oth (by omega)).trans (rfl)))))) (fun p p1 p2 => HF6.out.2.2 p (by omega) (by omega) (by omega))
   have HME : Hid (Md lo hi w ((w2.setCell ⟨b, o + i * 4 + 2, none⟩ (.string y2)).setCell ⟨b, o + i * 4 + 3, none⟩ (.bool y3))) := HMD.out.trans (HF6.out.to hl hh hs1 hs2)
   clear q0 q1 q2 q3
   go_wp2
   go_roundw
   case rel => exact ⟨i + 1, _, by omega, by go_num, by (rw [HSU.out]; unfold cn1Et;  have := HKK.out; go_num), HR6.out, HEA.out, HME.out⟩
   case measure => simp [intOf]; omega
  ·have h' : ¬ (i : Int) < (n : Int) := by omega
   obtain rfl : i = n := by omega
   have HE : Hid (cnkEt l i = cnEt l) := by show _ = _; unfold cnEt; rw [HN.out]
   rw [HE.out]
   have HGE : Hid (GEt lo hi wr (some ⟨b, o, none⟩) (mkEt k0 l)) := ⟨b, o, t, N, f, s, e, rfl, hl, hh, HRW.out, by rw [mkEt_len, HN.out]; exact hN, fun j y hy => by
    obtain ⟨x, hx, rfl⟩ := mkEt_of hy
    obtain ⟨u1, u2, u3, _⟩ := HEZ.out j x hx
    have := HEL.out j x hx
    rw [if_pos (by have := (List.getElem?_eq_some_iff.1 hx).1; have := HN.out; omega)] at this
    exact ⟨u1, u2, u3, this⟩, fun p q h1 h2 => HDI.out p q h1 (by rw [mkEt_len] at h2; exact h2)⟩
   go_wp2
   go_ret
   exact ⟨rfl, HGE.out, HMD.out⟩
theorem heldEt_any (a : Option Addr) (c : Nat) (l : List Et) (k0 : Nat) (w : World) (hR : SrcEt none w a (mkEt k0 l)) (h0 : 0 < k0) (hk : k0 + cnEt l ≤ 100000000) :
  Calls Tryz.prog 65 #[.slice a l.length c, .int .i64 (k0 : Int)] w fun e w' => e = .returned (.int .i64 ((k0 + cnEt l : Nat) : Int)) ∧ Below w.heap.size w w' := by
 have HER := Lib.hid hR
 have HCL := Lib.hid (cnkEt_le l)
 have HKL : Hid (k0 + cnEt l ≤ 100000000) := hk
 obtain ⟨n, hn⟩ : ∃ n, l.length = n := ⟨_, rfl⟩
 have HNN : Hid (l.length = n) := hn
 have hn9 : n ≤ 100000000 := by have h1 := cnEt_len l; have h2 := HKL.out; omega
 rw [hn]
 clear hR hn hk
 go_enter Tryz.func65, Tryz.ntmps65
 go_wp2
 go_loopw [1, 5] (fun v x wr => ∃ (i : Nat), i ≤ n ∧ x = .int .i64 (i : Int) ∧ v = .int .i64 ((k0 + cnkEt l i : Nat) : Int) ∧ Below w.heap.size w wr) (fun _ x _ => n - (intOf x).toNat)
 case atStart => exact ⟨0, Nat.zero_le _, rfl, by simp [cnkEt], Below.refl _ _⟩
 case round =>
  obtain ⟨i, hi, rfl, rfl, hbel⟩ := hrel
  have HBB : Hid (Below w.heap.size w wr) := hbel
  clear hbel
  by_cases h : i < n
  ·have h' : (i : Int) < (n : Int) := by omega
   have hi0 : (0 : Int) ≤ (i : Int) := by omega
   obtain ⟨x, hx⟩ : ∃ x, l[i]? = some x := ⟨_, List.getElem?_eq_getElem (by rw [HNN.out]; exact h)⟩
   have HX : Hid (l[i]? = some x) := hx
   have HSU := Lib.hid (cnkEt_succ hx)
   rcases HER.out with he | ⟨b, o, rfl, _, hc⟩
   ·have := congrArg List.length he.2; rw [mkEt_len, HNN.out] at this; simp at this; omega
   have hcx := hc i _ (mkEt_at hx)
   obtain ⟨K0, hK0⟩ : ∃ K : Nat, k0 + cnkEt l i = K := ⟨_, rfl⟩
   rw [hK0] at hcx
   have HKK : Hid (k0 + cnkEt l i = K0) := hK0
   have HCB : Hid (K0 + cn1Et x ≤ 100000000) := by
    show _ ≤ _
    have h1 := HCL.out (i + 1)
    have h2 := HKL.out
    have h3 := HSU.out
    omega
   have hK0b : K0 ≤ 100000000 := by have := HCB.out; omega
   have hK0c : K0 + 4 ≤ 100000000 := by have h9 := HCB.out; unfold cn1Et at h9; omega
   have hK0p : 0 < K0 := by omega
   rw [hK0]
   obtain ⟨e0, e1, e2, e3⟩ := hcx
   have HC : Hid (∀ W, Below w.heap.size w W → W.cell? ⟨b, o + i * 4, none⟩ = some (.string (sr.mark (K0))) ∧ W.cell? ⟨b, o + i * 4 + 1, none⟩ = some (.int .i64 (((K0 + 1 : Nat)) : Int)) ∧ W.cell? ⟨b, o + i * 4 + 2, none⟩ = some (.string (sr.mark (K0 + 2))) ∧ W.cell? ⟨b, o + i * 4 + 3, none⟩ = some (.bool (decide (((K0 + 3 : Nat) : Int) % 3 = 0)))) := fun W hW => by
    have kk : ∀ {p v}, w.cell? ⟨b, p, none⟩ = some v → W.cell? ⟨b, p, none⟩ = some v := fun {p v} h => (hW.cell (p := ⟨b, p, none⟩) (World.block_lt_of_cell? _ _ h)).trans h
    exact ⟨kk e0, kk e1, kk e2, kk e3⟩

   obtain ⟨y0, hy0⟩ : ∃ y, sr.mark (K0) = y := ⟨_, rfl⟩
   have HY0 : Hid (sr.mark (K0) = y0) := hy0
   rw [hy0] at HC
   clear hy0
   obtain ⟨y2, hy2⟩ : ∃ y, sr.mark (K0 + 2) = y := ⟨_, rfl⟩
   have HY2 : Hid (sr.mark (K0 + 2) = y2) := hy2
   rw [hy2] at HC
   clear hy2
   clear hK0 hx hc e0 e1 e2 e3 
   have HM0 : Hid (∀ W, Calls Tryz.prog 62 #[.int .i64 ((K0 : Int))] W fun e w' => e = .returned (.string y0) ∧ Below W.heap.size W w') := fun W => by
    have := sr.mark_any (K0) (by omega) (by omega) W
    rw [show ((K0 : Nat) : Int) = (K0 : Int) by omega] at this
    rwa [show sr.mark (K0) = y0 from (congrArg sr.mark (by  omega)).trans HY0.out] at this
   have HCd0 : Hid (∀ W, Below w.heap.size w W → W.cell? ⟨b, o + i * 4, none⟩ = some (.string y0)) := fun W hW => (HC.out W hW).1
   have dd0 := HCd0.out wr HBB.out
   go_wp2_with fail
   go_region_held3 (fun w' => w'.cell? ⟨b, o + i * 4, none⟩ = some (.string y0))
    (first | go_keep | exact HCd0.out _ (HBB.out.drew.trans (hb1.mono HBB.out.size)))
    (first | ((go_at_call 62; refine (HM0.out _).mono ?_; rintro e w0 ⟨rfl, hb1⟩)))
   have HB0 : Hid (Below w.heap.size w w0) := HBB.out.drew.trans (hb1.mono HBB.out.size)
   clear hb1 dd0 
   have dd1 : w0.cell? ⟨b, o + i * 4 + 1, none⟩ = some (.int .i64 ((K0 : Int) + 1)) := by have := (HC.out w0 HB0.out).2.1; rwa [show ((K0 + 1 : Nat) : Int) = (K0 : Int) + 1 by  omega] at this
   have HM2 : Hid (∀ W, Calls Tryz.prog 62 #[.int .i64 ((K0 : Int) + 1 + 1)] W fun e w' => e = .returned (.string y2) ∧ Below W.heap.size W w') := fun W => by
    have := sr.mark_any (K0 + 2) (by omega) (by omega) W
    rw [show ((K0 + 2 : Nat) : Int) = (K0 : Int) + 1 + 1 by omega] at this
    rwa [show sr.mark (K0 + 2) = y2 from (congrArg sr.mark (by  omega)).trans HY2.out] at this
   have HCd2 : Hid (∀ W, Below w.heap.size w W → W.cell? ⟨b, o + i * 4 + 2, none⟩ = some (.string y2)) := fun W hW => (HC.out W hW).2.2.1
   have dd2 := HCd2.out w0 HB0.out
   go_wp2_with fail
   go_region_held3 (fun w' => w'.cell? ⟨b, o + i * 4 + 2, none⟩ = some (.string y2))
    (first | go_keep | exact HCd2.out _ (HB0.out.drew.trans (hb1.mono HB0.out.size)))
    (first | ((go_at_call 62; refine (HM2.out _).mono ?_; rintro e w2 ⟨rfl, hb1⟩)))
   have HB2 : Hid (Below w.heap.size w w2) := HB0.out.drew.trans (hb1.mono HB0.out.size)
   clear hb1 dd2 dd1
   obtain ⟨y3, hy3⟩ : ∃ t, decide (((K0 : Int) + 1 + 1 + 1) % 3 = 0) = t := ⟨_, rfl⟩
   have hyb3 : (((K0 : Int) + 1 + 1 + 1) % 3 == 0) = y3 := by rw [← hy3]; rfl
   have dd3 : w2.cell? ⟨b, o + i * 4 + 3, none⟩ = some (.bool y3) := by have := (HC.out w2 HB2.out).2.2.2; rw [show ((K0 + 3 : Nat) : Int) = (K0 : Int) + 1 + 1 + 1 by  omega] at this; rwa [hy3] at this
   go_wp2_with fail
   go_roundw
   case rel => exact ⟨i + 1, by omega, by go_num, by (rw [HSU.out]; unfold cn1Et;  have := HKK.out; go_num), HB2.out⟩
   case measure => simp [intOf]; omega
  ·have h' : ¬ (i : Int) < (n : Int) := by omega
   obtain rfl : i = n := by omega
   have HE : Hid (cnkEt l i = cnEt l) := by show _ = _; unfold cnEt; rw [HNN.out]
   rw [HE.out]
   go_wp2
   go_ret
   exact ⟨rfl, HBB.out⟩
end Go.Proofs.YtpfnnjfapcnbnaaGreatDoor.ty
