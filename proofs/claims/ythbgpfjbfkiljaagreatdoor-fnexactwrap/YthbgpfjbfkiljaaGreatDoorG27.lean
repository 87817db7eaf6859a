import Derived.Test.YthbgpfjbfkiljaaGreatDoorG12
import Derived.Test.YthbgpfjbfkiljaaGreatDoorG26
set_option linter.unusedVariables false
set_option linter.unusedSimpArgs false
set_option maxRecDepth 100000
set_option maxHeartbeats 16000000
namespace Go.Proofs.YthbgpfjbfkiljaaGreatDoor.ty
open Go.ChangeShapes Go.WideShapes Go.ChangeAt Go.RowKit Go.Deep
def isSl : Value → Bool
 | .slice _ _ _ => true
 | _ => false
def K1 (v v' : Value) : Prop := (isSl v = true → v' = v) ∧ (isSl v = false → isSl v' = false)
theorem K1.refl (v : Value) : K1 v v := ⟨fun _ => rfl, fun h => h⟩
theorem K1.trans {u v x : Value} (h : K1 u v) (k : K1 v x) : K1 u x := ⟨fun e => by have := h.1 e; subst this; exact k.1 e, fun e => k.2 (h.2 e)⟩
def Shp (w w' : World) : Prop := ∀ (j : Nat) (cs : Array Value) (t : TypeId), w.heap[j]? = some (.cells cs t (0, 0)) → ∃ cs' : Array Value, w'.heap[j]? = some (.cells cs' t (0, 0)) ∧ ∀ (i : Nat) (v : Value), cs[i]? = some v → ∃ v' : Value, cs'[i]? = some v' ∧ K1 v v'
theorem Shp.refl (w : World) : Shp w w := fun j cs t h => ⟨cs, h, fun i v hv => ⟨v, hv, K1.refl v⟩⟩
theorem Shp.trans {A B C : World} (h : Shp A B) (k : Shp B C) : Shp A C := fun j cs t e => by
 obtain ⟨c1, e1, h1⟩ := h j cs t e
 obtain ⟨c2, e2, h2⟩ := k j c1 t e1
 exact ⟨c2, e2, fun i v hv => by
  obtain ⟨v1, g1, k1⟩ := h1 i v hv
  obtain ⟨v2, g2, k2⟩ := h2 i v1 g1
  exact ⟨v2, g2, k1.trans k2⟩⟩
theorem Shp.below {A B : World} (k : Below A.heap.size A B) : Shp A B := fun j cs t e => ⟨cs, (k.block j (Array.getElem?_eq_some_iff.1 e).1).trans e, fun i v hv => ⟨v, hv, K1.refl v⟩⟩
theorem Shp.set {w : World} {b p : Nat} {v x : Value} (hc : w.cell? ⟨b, p, none⟩ = some v) (hv : isSl v = false) (hx : isSl x = false) : Shp w (w.setCell ⟨b, p, none⟩ x) := fun j cs t e => by
 by_cases hj : j = b
 ·subst hj
  have he : (w.setCell ⟨j, p, none⟩ x).heap[j]? = some (.cells (cs.setIfInBounds p x) t (0, 0)) := by simp [World.setCell, Array.getElem?_modify, e]
  refine ⟨_, he, fun i u hu => ?_⟩
  rw [Array.getElem?_setIfInBounds]
  by_cases hi : p = i
  ·subst hi
   rw [if_pos rfl, if_pos (Array.getElem?_eq_some_iff.1 hu).1]
   have hcv : w.cell? ⟨j, p, none⟩ = some u := by simp [World.cell?, e, hu]
   rw [hc] at hcv
   have := Option.some.inj hcv
   subst this
   exact ⟨x, rfl, ⟨(fun h => by rw [hv] at h; cases h), fun _ => hx⟩⟩
  ·rw [if_neg hi]
   exact ⟨u, hu, K1.refl u⟩
 ·exact ⟨cs, by rw [show (w.setCell ⟨b, p, none⟩ x).heap[j]? = w.heap[j]? by simp only [World.setCell]; rw [Array.getElem?_modify, if_neg (fun e => hj e.symm)]]; exact e, fun i u hu => ⟨u, hu, K1.refl u⟩⟩
def Rel (lo hi : Nat) (w w' : World) : Prop := (w'.os = w.os ∧ w'.tape = w.tape ∧ w'.output = w.output) ∧ w.heap.size ≤ w'.heap.size ∧ (∀ j, j < w.heap.size → (j < lo ∨ hi ≤ j) → w'.heap[j]? = w.heap[j]?) ∧ Shp w w'
theorem Rel.refl (lo hi : Nat) (w : World) : Rel lo hi w w := ⟨⟨rfl, rfl, rfl⟩, Nat.le_refl _, fun _ _ _ => rfl, Shp.refl w⟩
theorem Rel.trans {lo hi : Nat} {A B C : World} (h : Rel lo hi A B) (k : Rel lo hi B C) : Rel lo hi A C := ⟨⟨k.1.1.trans h.1.1, k.1.2.1.trans h.1.2.1, k.1.2.2.trans h.1.2.2⟩, Nat.le_trans h.2.1 k.2.1, fun j hj e => (k.2.2.1 j (Nat.lt_of_lt_of_le hj h.2.1) e).trans (h.2.2.1 j hj e), h.2.2.2.trans k.2.2.2⟩
theorem Rel.below {lo hi : Nat} {A B C : World} (h : Rel lo hi A B) (k : Below B.heap.size B C) : Rel lo hi A C := h.trans ⟨⟨k.os, k.tape, k.output⟩, k.size, fun j hj _ => k.block j hj, Shp.below k⟩
theorem Rel.set {lo hi : Nat} {A B : World} {b p : Nat} {v x : Value} (h : Rel lo hi A B) (hl : lo ≤ b) (hh : b < hi) (hc : B.cell? ⟨b, p, none⟩ = some v) (hv : isSl v = false) (hx : isSl x = false) : Rel lo hi A (B.setCell ⟨b, p, none⟩ x) :=
 h.trans ⟨⟨rfl, rfl, rfl⟩, by simp, fun j hj e => by simp only [World.setCell]; rw [Array.getElem?_modify, if_neg (by omega)], Shp.set hc hv hx⟩
theorem Rel.toBelow {lo hi : Nat} {w w' : World} (h : Rel lo hi w w') {B : Nat} (hB : B ≤ lo) (hs : B ≤ w.heap.size) : Below B w w' := ⟨h.1.1, h.1.2.1, h.1.2.2, h.2.1, fun j hj => h.2.2.1 j (by omega) (.inl (by omega))⟩
theorem cell_shp {w w' : World} (h : Shp w w') {b p : Nat} {v : Value} (hb : ∃ cs t, w.heap[b]? = some (.cells cs t (0, 0))) (hc : w.cell? ⟨b, p, none⟩ = some v) : ∃ v', w'.cell? ⟨b, p, none⟩ = some v' ∧ K1 v v' ∧ w'.frozen? ⟨b, p, none⟩ = false := by
 obtain ⟨cs, t, e⟩ := hb
 obtain ⟨cs', e', k⟩ := h b cs t e
 have hv : cs[p]? = some v := by simpa [World.cell?, e] using hc
 obtain ⟨v', h1, h2⟩ := k p v hv
 exact ⟨v', by simp [World.cell?, e', h1], h2, by simp [World.frozen?, e']⟩
theorem blk_shp {w w' : World} (h : Shp w w') {b : Nat} (hb : ∃ cs t, w.heap[b]? = some (.cells cs t (0, 0))) : ∃ cs t, w'.heap[b]? = some (.cells cs t (0, 0)) := by
 obtain ⟨cs, t, e⟩ := hb
 obtain ⟨cs', e', _⟩ := h b cs t e
 exact ⟨cs', t, e'⟩
def MS (lo hi : Nat) (w : World) (a : Option Addr) (l : List ByteArray) : Prop := ∃ b o, a = some ⟨b, o, none⟩ ∧ lo ≤ b ∧ b < hi ∧ (∃ cs t, w.heap[b]? = some (.cells cs t (0, 0))) ∧ ∀ i, i < l.length → ∃ v, w.cell? ⟨b, o + i, none⟩ = some v ∧ isSl v = false
def cnS (l : List ByteArray) : Nat := l.length
theorem cnS_le (l : List ByteArray) : cnS l ≤ 8 * wtS l := by have := wtS_len l; unfold cnS; omega
theorem MS.shp {lo hi : Nat} {w w' : World} {a : Option Addr} {l : List ByteArray} (h : MS lo hi w a l) (k : Shp w w') : MS lo hi w' a l := by
 obtain ⟨b, o, e, h1, h2, h3, h4⟩ := h
 refine ⟨b, o, e, h1, h2, blk_shp k h3, fun i hi => ?_⟩
 obtain ⟨v, g1, g2⟩ := h4 i hi
 obtain ⟨v', k1, k2, _⟩ := cell_shp k h3 g1
 exact ⟨v', k1, k2.2 g2⟩
theorem MS.src {lo : Nat} {w : World} {a : Option Addr} {l : List ByteArray} (h : SrcS (some lo) w a l) : MS lo w.heap.size w a l := by
 rcases h with ⟨h, _⟩ | ⟨b, o, e, h1, h2⟩
 ·cases h
 ·obtain ⟨g1, cs, t, g2⟩ := h1 lo rfl
  exact ⟨b, o, e, g1, (Array.getElem?_eq_some_iff.1 g2).1, ⟨cs, t, g2⟩, fun i hi => ⟨_, h2 i _ (List.getElem?_eq_getElem hi), rfl⟩⟩
theorem markS_all (lo hi : Nat) (a : Option Addr) (c : Nat) (l : List ByteArray) (k0 : Nat) (w : World) (hM : MS lo hi w a l) (h0 : 0 < k0) (hk : k0 + cnS l ≤ 100000000) :
  Calls Tryz.prog 14 #[.slice a l.length c, .int .i64 (k0 : Int)] w fun e w' => e = .returned (.int .i64 ((k0 + cnS l : Nat) : Int)) ∧ Rel lo hi w w' := by
 obtain ⟨b, o, rfl, hl, hh, hbk, hc⟩ := hM
 have HBK := Lib.hid hbk
 have HC := Lib.hid hc
 unfold cnS at hk ⊢
 clear hbk hc
 generalize l.length = n at *
 go_enter Tryz.func14, Tryz.ntmps14
 go_wp2
 go_loopw [1, 5] (fun a x wr => ∃ (i : Nat), i ≤ n ∧ x = .int .i64 (i : Int) ∧ a = .int .i64 ((k0 + i : Nat) : Int) ∧ Rel lo hi w wr) (fun _ x _ => n - (intOf x).toNat)
 case atStart => exact ⟨0, Nat.zero_le _, rfl, rfl, Rel.refl _ _ _⟩
 case round =>
  obtain ⟨i, hi', rfl, rfl, hrl⟩ := hrel
  have HRL : Hid (Rel lo hi w wr) := hrl
  clear hrl
  by_cases h : i < n
  ·have h' : (i : Int) < (n : Int) := by omega
   obtain ⟨K, hK⟩ : ∃ K : Nat, k0 + i = K := ⟨_, rfl⟩
   have HKK : Hid (k0 + i = K) := hK
   have HMT := Lib.hid fun (W : World) => sr.mark_any K (by omega) (by omega) W
   rw [hK]
   have hKb : K ≤ 100000000 := by omega
   generalize sr.mark K = s at *
   clear hK
   go_wp2_with (go_at_call 39; refine (HMT.out _).mono ?_; rintro e w1 ⟨rfl, hb1⟩; refine Hid.out ?_)
   refine Lib.hid ?_
   have HR1 : Hid (Rel lo hi w w1) := HRL.out.below hb1
   clear hb1
   obtain ⟨v0, g0, n0⟩ := HC.out i h
   obtain ⟨v1, g1, k1, f1⟩ := cell_shp HR1.out.2.2.2 HBK.out g0
   have HN1 : Hid (isSl v1 = false) := k1.2 n0
   have HR2 : Hid (Rel lo hi w (w1.setCell ⟨b, o + i, none⟩ (.string s))) := HR1.out.set hl hh g1 HN1.out rfl
   clear g0 n0 k1
   go_wp2
   go_roundw
   case rel => exact ⟨i + 1, by omega, by go_num, by rw [← Nat.add_assoc, HKK.out]; go_num, HR2.out⟩
   case measure => simp [intOf]; omega
  ·have h' : ¬ (i : Int) < (n : Int) := by omega
   obtain rfl : i = n := by omega
   go_wp2
   go_ret
   exact ⟨rfl, HRL.out⟩
def MEt (lo hi : Nat) (w : World) (a : Option Addr) (l : List Et) : Prop := ∃ b o, a = some ⟨b, o, none⟩ ∧ lo ≤ b ∧ b < hi ∧ (∃ cs t, w.heap[b]? = some (.cells cs t (0, 0))) ∧ ∀ (i : Nat) (x : Et), l[i]? = some x → (∃ v, w.cell? ⟨b, o + i * 4, none⟩ = some v ∧ isSl v = false) ∧ (∃ v, w.cell? ⟨b, o + i * 4 + 1, none⟩ = some v ∧ isSl v = false) ∧ (∃ v, w.cell? ⟨b, o + i * 4 + 2, none⟩ = some v ∧ isSl v = false) ∧ (∃ v, w.cell? ⟨b, o + i * 4 + 3, none⟩ = some v ∧ isSl v = false)
def cn1Et (x : Et) : Nat := 4
def cnkEt (l : List Et) (k : Nat) : Nat := ((l.take k).map cn1Et).sum
def cnEt (l : List Et) : Nat := cnkEt l l.length
theorem cnkEt_succ {l : List Et} {k : Nat} {x : Et} (h : l[k]? = some x) : cnkEt l (k + 1) = cnkEt l k + cn1Et x := by
 unfold cnkEt
 rw [List.take_add_one, h]
 simp
theorem cnkEt_le (l : List Et) (k : Nat) : cnkEt l k ≤ cnEt l := by
 unfold cnEt cnkEt
 rw [List.take_length]
 have : ((l.take k).map cn1Et).sum + ((l.drop k).map cn1Et).sum = (l.map cn1Et).sum := by rw [← List.sum_append_nat, ← List.map_append, List.take_append_drop]
 omega
theorem cnEt_len (l : List Et) : l.length ≤ cnEt l := by
 unfold cnEt cnkEt
 rw [List.take_length]
 induction l with
 | nil => simp
 | cons y l ih =>
  rw [List.map_cons, List.sum_cons, List.length_cons]
  have : 1 ≤ cn1Et y := by unfold cn1Et; omega
  omega
theorem cnEt_le (l : List Et) : cnEt l ≤ 8 * wtEt l := by
 have h1 : ∀ x : Et, cn1Et x ≤ 8 * (1 + wt1Et x) := fun x => by unfold cn1Et wt1Et;  omega
 unfold cnEt cnkEt wtEt wtkEt
 rw [List.take_length]
 induction l with
 | nil => simp
 | cons y l ih =>
  rw [List.map_cons, List.map_cons, List.sum_cons, List.sum_cons, List.length_cons]
  have := h1 y
  omega
theorem MEt.shp {lo hi : Nat} {w w' : World} {a : Option Addr} {l : List Et} (h : MEt lo hi w a l) (k : Shp w w') : MEt lo hi w' a l := by
 obtain ⟨b, o, e, hA, hA2, hB, hX⟩ := h
 refine ⟨b, o, e, hA, hA2, blk_shp k hB, fun i x hx => ?_⟩
 obtain ⟨h0, h1, h2, h3⟩ := hX i x hx
 exact ⟨(by obtain ⟨v, g1, g2⟩ := h0; obtain ⟨v', k1, k2, _⟩ := cell_shp k hB g1; exact ⟨v', k1, k2.2 g2⟩), (by obtain ⟨v, g1, g2⟩ := h1; obtain ⟨v', k1, k2, _⟩ := cell_shp k hB g1; exact ⟨v', k1, k2.2 g2⟩), (by obtain ⟨v, g1, g2⟩ := h2; obtain ⟨v', k1, k2, _⟩ := cell_shp k hB g1; exact ⟨v', k1, k2.2 g2⟩), (by obtain ⟨v, g1, g2⟩ := h3; obtain ⟨v', k1, k2, _⟩ := cell_shp k hB g1; exact ⟨v', k1, k2.2 g2⟩)⟩
theorem MEt.src {lo : Nat} {w : World} {a : Option Addr} {l : List Et} (h : SrcEt (some lo) w a l) : MEt lo w.heap.size w a l := by
 rcases h with ⟨h, _⟩ | ⟨b, o, e, h1, h2⟩
 ·cases h
 ·obtain ⟨g1, cs, t, g2⟩ := h1 lo rfl
  refine ⟨b, o, e, g1, (Array.getElem?_eq_some_iff.1 g2).1, ⟨cs, t, g2⟩, fun i x hx => ?_⟩
  obtain ⟨q0, q1, q2, q3⟩ := h2 i x hx
  exact ⟨⟨_, q0, rfl⟩, ⟨_, q1, rfl⟩, ⟨_, q2, rfl⟩, ⟨_, q3, rfl⟩⟩
theorem markEt_any (lo hi : Nat) (a : Option Addr) (c : Nat) (l : List Et) (k0 : Nat) (w : World) (hM : MEt lo hi w a l) (h0 : 0 < k0) (hk : k0 + cnEt l ≤ 100000000) :
  Calls Tryz.prog 15 #[.slice a l.length c, .int .i64 (k0 : Int)] w fun e w' => e = .returned (.int .i64 ((k0 + cnEt l : Nat) : Int)) ∧ Rel lo hi w w' := by
 obtain ⟨b, o, rfl, hl, hh, hbk, hc⟩ := hM
 have HBK := Lib.hid hbk
 have HC := Lib.hid hc
 have HCL := Lib.hid (cnkEt_le l)
 have HKL : Hid (k0 + cnEt l ≤ 100000000) := hk
 clear hbk hc hk
 obtain ⟨n, hn⟩ : ∃ n, l.length = n := ⟨_, rfl⟩
 have HN : Hid (l.length = n) := hn
 have hn9 : n ≤ 100000000 := by have h1 := cnEt_len l; have h2 := HKL.out; omega
 rw [hn]
 clear hn
 go_enter Tryz.func15, Tryz.ntmps15
 go_wp2
 go_loopw [1, 5] (fun a x wr => ∃ (i : Nat), i ≤ n ∧ x = .int .i64 (i : Int) ∧ a = .int .i64 ((k0 + cnkEt l i : Nat) : Int) ∧ Rel lo hi w wr) (fun _ x _ => n - (intOf x).toNat)
 case atStart => exact ⟨0, Nat.zero_le _, rfl, by simp [cnkEt], Rel.refl _ _ _⟩
 case round =>
  obtain ⟨i, hi', rfl, rfl, hrl⟩ := hrel
  have HRL : Hid (Rel lo hi w wr) := hrl
  clear hrl
  by_cases h : i < n
  ·have h' : (i : Int) < (n : Int) := by omega
   have hi0 : (0 : Int) ≤ (i : Int) := by omega
   obtain ⟨x, hx⟩ : ∃ x, l[i]? = some x := ⟨_, List.getElem?_eq_getElem (by rw [HN.out]; exact h)⟩
   have HX : Hid (l[i]? = some x) := hx
   have HSU := Lib.hid (cnkEt_succ hx)
   obtain ⟨K0, hK0⟩ : ∃ K : Nat, k0 + cnkEt l i = K := ⟨_, rfl⟩
   have HKK : Hid (k0 + cnkEt l i = K0) := hK0
   have HCB : Hid (K0 + cn1Et x ≤ 100000000) := by
    show _ ≤ _
    have h1 := HCL.out (i + 1)
    have h2 := HKL.out
    have h3 := HSU.out
    omega
   have hK0b : K0 ≤ 100000000 := by have := HCB.out; omega
   have hK0c : K0 + 4 ≤ 100000000 := by have h9 := HCB.out; unfold cn1Et at h9; omega
   have hK0p : 0 < K0 := by omega
   rw [hK0]
   clear hK0 hx
   have HM0 : Hid (∀ W, Calls Tryz.prog 39 #[.int .i64 ((K0 : Int))] W fun e w' => e = .returned (.string (sr.mark (K0 + 0))) ∧ Below W.heap.size W w') := fun W => by
    have := sr.mark_any (K0 + 0) (by omega) (by omega) W
    rwa [show ((K0 + 0 : Nat) : Int) = (K0 : Int) by omega] at this
   generalize sr.mark (K0 + 0) = s0 at *
   go_wp2_with (go_at_call 39; refine (HM0.out _).mono ?_; rintro e w0 ⟨rfl, hb0⟩; refine Hid.out ?_)
   refine Lib.hid ?_
   have HB0 : Hid (Rel lo hi w w0) := HRL.out.below hb0
   clear hb0 HM0 
   obtain ⟨u0_1, x0_1, y0_1⟩ := (HC.out i x HX.out).1
   obtain ⟨v0_1, g0_1, l0_1, f0_1⟩ := cell_shp HB0.out.2.2.2 HBK.out x0_1
   have HZ0_1 : Hid (isSl v0_1 = false) := l0_1.2 y0_1
   clear y0_1 l0_1
   have HR0_1 : Hid (Rel lo hi w (w0.setCell ⟨b, o + i * 4, none⟩ (.string s0))) := by
    obtain ⟨v9, g9, l9, f9⟩ := cell_shp HB0.out.2.2.2 HBK.out x0_1
    obtain ⟨_, _, y9⟩ := (HC.out i x HX.out).1
    exact HB0.out.set hl hh g9 (l9.2 (by obtain ⟨u9, x9, y9⟩ := (HC.out i x HX.out).1; rw [x0_1] at x9; cases x9; exact y9)) rfl
   obtain ⟨u1_1, x1_1, y1_1⟩ := (HC.out i x HX.out).2.1
   obtain ⟨v1_1, g1_1, l1_1, f1_1⟩ := cell_shp HB0.out.2.2.2 HBK.out x1_1
   have HZ1_1 : Hid (isSl v1_1 = false) := l1_1.2 y1_1
   clear y1_1 l1_1
   have HR1_1 : Hid (Rel lo hi w ((w0.setCell ⟨b, o + i * 4, none⟩ (.string s0)).setCell ⟨b, o + i * 4 + 1, none⟩ (.int .i64 ((K0 : Int) + 1)))) := by
    obtain ⟨v9, g9, l9, f9⟩ := cell_shp HR0_1.out.2.2.2 HBK.out x1_1
    obtain ⟨_, _, y9⟩ := (HC.out i x HX.out).2.1
    exact HR0_1.out.set hl hh g9 (l9.2 (by obtain ⟨u9, x9, y9⟩ := (HC.out i x HX.out).2.1; rw [x1_1] at x9; cases x9; exact y9)) rfl
   have HM2 : Hid (∀ W, Calls Tryz.prog 39 #[.int .i64 ((K0 : Int) + 1 + 1)] W fun e w' => e = .returned (.string (sr.mark (K0 + 2))) ∧ Below W.heap.size W w') := fun W => by
    have := sr.mark_any (K0 + 2) (by omega) (by omega) W
    rwa [show ((K0 + 2 : Nat) : Int) = (K0 : Int) + 1 + 1 by omega] at this
   generalize sr.mark (K0 + 2) = s2 at *
   go_wp2_with (go_at_call 39; refine (HM2.out _).mono ?_; rintro e w2 ⟨rfl, hb2⟩; refine Hid.out ?_)
   refine Lib.hid ?_
   have HB2 : Hid (Rel lo hi w w2) := HR1_1.out.below hb2
   clear hb2 HM2 g0_1 f0_1 g1_1 f1_1
   obtain ⟨u2_2, x2_2, y2_2⟩ := (HC.out i x HX.out).2.2.1
   obtain ⟨v2_2, g2_2, l2_2, f2_2⟩ := cell_shp HB2.out.2.2.2 HBK.out x2_2
   have HZ2_2 : Hid (isSl v2_2 = false) := l2_2.2 y2_2
   clear y2_2 l2_2
   have HR2_2 : Hid (Rel lo hi w (w2.setCell ⟨b, o + i * 4 + 2, none⟩ (.string s2))) := by
    obtain ⟨v9, g9, l9, f9⟩ := cell_shp HB2.out.2.2.2 HBK.out x2_2
    obtain ⟨_, _, y9⟩ := (HC.out i x HX.out).2.2.1
    exact HB2.out.set hl hh g9 (l9.2 (by obtain ⟨u9, x9, y9⟩ := (HC.out i x HX.out).2.2.1; rw [x2_2] at x9; cases x9; exact y9)) rfl
   obtain ⟨t3, ht3⟩ : ∃ t, decide (((K0 : Int) + 1 + 1 + 1) % 3 = 0) = t := ⟨_, rfl⟩
   have ht3b : (((K0 : Int) + 1 + 1 + 1) % 3 == 0) = t3 := by rw [← ht3]; rfl
   obtain ⟨u3_2, x3_2, y3_2⟩ := (HC.out i x HX.out).2.2.2
   obtain ⟨v3_2, g3_2, l3_2, f3_2⟩ := cell_shp HB2.out.2.2.2 HBK.out x3_2
   have HZ3_2 : Hid (isSl v3_2 = false) := l3_2.2 y3_2
   clear y3_2 l3_2
   have HR3_2 : Hid (Rel lo hi w ((w2.setCell ⟨b, o + i * 4 + 2, none⟩ (.string s2)).setCell ⟨b, o + i * 4 + 3, none⟩ (.bool t3))) := by
    obtain ⟨v9, g9, l9, f9⟩ := cell_shp HR2_2.out.2.2.2 HBK.out x3_2
    obtain ⟨_, _, y9⟩ := (HC.out i x HX.out).2.2.2
    exact HR2_2.out.set hl hh g9 (l9.2 (by obtain ⟨u9, x9, y9⟩ := (HC.out i x HX.out).2.2.2; rw [x3_2] at x9; cases x9; exact y9)) rfl
   go_wp2
   go_roundw
   case rel => exact ⟨i + 1, by omega, by go_num, by (rw [HSU.out]; unfold cn1Et;  have := HKK.out; go_num) , HR3_2.out⟩
   case measure => simp [intOf]; omega
  ·have h' : ¬ (i : Int) < (n : Int) := by omega
   obtain rfl : i = n := by omega
   have HE : Hid (cnkEt l i = cnEt l) := by show _ = _; unfold cnEt; rw [HN.out]
   rw [HE.out]
   go_wp2
   go_ret
   exact ⟨rfl, HRL.out⟩
def MIt (lo hi : Nat) (w : World) (a : Option Addr) (l : List It) : Prop := ∃ b o, a = some ⟨b, o, none⟩ ∧ lo ≤ b ∧ b < hi ∧ (∃ cs t, w.heap[b]? = some (.cells cs t (0, 0))) ∧ ∀ (i : Nat) (x : It), l[i]? = some x → (∃ v, w.cell? ⟨b, o + i * 5, none⟩ = some v ∧ isSl v = false) ∧ (∃ v, w.cell? ⟨b, o + i * 5 + 1, none⟩ = some v ∧ isSl v = false) ∧ (∃ v, w.cell? ⟨b, o + i * 5 + 3, none⟩ = some v ∧ isSl v = false) ∧ (∃ a2 c2, w.cell? ⟨b, o + i * 5 + 2, none⟩ = some (.slice a2 x.fRefs.length c2) ∧ MS lo hi w a2 x.fRefs) ∧ (∃ a4 c4, w.cell? ⟨b, o + i * 5 + 4, none⟩ = some (.slice a4 x.fTree.length c4) ∧ MEt lo hi w a4 x.fTree)
def cn1It (x : It) : Nat := 3 + cnS x.fRefs + cnEt x.fTree
def cnkIt (l : List It) (k : Nat) : Nat := ((l.take k).map cn1It).sum
def cnIt (l : List It) : Nat := cnkIt l l.length
theorem cnkIt_succ {l : List It} {k : Nat} {x : It} (h : l[k]? = some x) : cnkIt l (k + 1) = cnkIt l k + cn1It x := by
 unfold cnkIt
 rw [List.take_add_one, h]
 simp
theorem cnkIt_le (l : List It) (k : Nat) : cnkIt l k ≤ cnIt l := by
 unfold cnIt cnkIt
 rw [List.take_length]
 have : ((l.take k).map cn1It).sum + ((l.drop k).map cn1It).sum = (l.map cn1It).sum := by rw [← List.sum_append_nat, ← List.map_append, List.take_append_drop]
 omega
theorem cnIt_len (l : List It) : l.length ≤ cnIt l := by
 unfold cnIt cnkIt
 rw [List.take_length]
 induction l with
 | nil => simp
 | cons y l ih =>
  rw [List.map_cons, List.sum_cons, List.length_cons]
  have : 1 ≤ cn1It y := by unfold cn1It; omega
  omega
theorem cnIt_le (l : List It) : cnIt l ≤ 8 * wtIt l := by
 have h1 : ∀ x : It, cn1It x ≤ 8 * (1 + wt1It x) := fun x => by unfold cn1It wt1It; have := cnS_le x.fRefs; have := cnEt_le x.fTree; omega
 unfold cnIt cnkIt wtIt wtkIt
 rw [List.take_length]
 induction l with
 | nil => simp
 | cons y l ih =>
  rw [List.map_cons, List.map_cons, List.sum_cons, List.sum_cons, List.length_cons]
  have := h1 y
  omega
theorem MIt.shp {lo hi : Nat} {w w' : World} {a : Option Addr} {l : List It} (h : MIt lo hi w a l) (k : Shp w w') : MIt lo hi w' a l := by
 obtain ⟨b, o, e, hA, hA2, hB, hX⟩ := h
 refine ⟨b, o, e, hA, hA2, blk_shp k hB, fun i x hx => ?_⟩
 obtain ⟨h0, h1, h2, h3, h4⟩ := hX i x hx
 exact ⟨(by obtain ⟨v, g1, g2⟩ := h0; obtain ⟨v', k1, k2, _⟩ := cell_shp k hB g1; exact ⟨v', k1, k2.2 g2⟩), (by obtain ⟨v, g1, g2⟩ := h1; obtain ⟨v', k1, k2, _⟩ := cell_shp k hB g1; exact ⟨v', k1, k2.2 g2⟩), (by obtain ⟨v, g1, g2⟩ := h2; obtain ⟨v', k1, k2, _⟩ := cell_shp k hB g1; exact ⟨v', k1, k2.2 g2⟩), (by obtain ⟨a, c, g1, g2⟩ := h3; obtain ⟨v', k1, k2, _⟩ := cell_shp k hB g1; exact ⟨a, c, by rw [k1, k2.1 rfl], g2.shp k⟩), (by obtain ⟨a, c, g1, g2⟩ := h4; obtain ⟨v', k1, k2, _⟩ := cell_shp k hB g1; exact ⟨a, c, by rw [k1, k2.1 rfl], g2.shp k⟩)⟩
theorem MIt.src {lo : Nat} {w : World} {a : Option Addr} {l : List It} (h : SrcIt (some lo) w a l) : MIt lo w.heap.size w a l := by
 rcases h with ⟨h, _⟩ | ⟨b, o, e, h1, h2⟩
 ·cases h
 ·obtain ⟨g1, cs, t, g2⟩ := h1 lo rfl
  refine ⟨b, o, e, g1, (Array.getElem?_eq_some_iff.1 g2).1, ⟨cs, t, g2⟩, fun i x hx => ?_⟩
  obtain ⟨a2, c2, a4, c4, q0, q1, q2, q3, q4, s2, s4, t2, t4⟩ := h2 i x hx
  exact ⟨⟨_, q0, rfl⟩, ⟨_, q1, rfl⟩, ⟨_, q3, rfl⟩, ⟨a2, c2, q2, MS.src s2⟩, ⟨a4, c4, q4, MEt.src s4⟩⟩
theorem markIt_any (lo hi : Nat) (a : Option Addr) (c : Nat) (l : List It) (k0 : Nat) (w : World) (hM : MIt lo hi w a l) (h0 : 0 < k0) (hk : k0 + cnIt l ≤ 100000000) :
  Calls Tryz.prog 35 #[.slice a l.length c, .int .i64 (k0 : Int)] w fun e w' => e = .returned (.int .i64 ((k0 + cnIt l : Nat) : Int)) ∧ Rel lo hi w w' := by
 obtain ⟨b, o, rfl, hl, hh, hbk, hc⟩ := hM
 have HBK := Lib.hid hbk
 have HC := Lib.hid hc
 have HCL := Lib.hid (cnkIt_le l)
 have HKL : Hid (k0 + cnIt l ≤ 100000000) := hk
 clear hbk hc hk
 obtain ⟨n, hn⟩ : ∃ n, l.length = n := ⟨_, rfl⟩
 have HN : Hid (l.length = n) := hn
 have hn9 : n ≤ 100000000 := by have h1 := cnIt_len l; have h2 := HKL.out; omega
 rw [hn]
 clear hn
 go_enter Tryz.func35, Tryz.ntmps35
 go_wp2
 go_loopw [1, 5] (fun a x wr => ∃ (i : Nat), i ≤ n ∧ x = .int .i64 (i : Int) ∧ a = .int .i64 ((k0 + cnkIt l i : Nat) : Int) ∧ Rel lo hi w wr) (fun _ x _ => n - (intOf x).toNat)
 case atStart => exact ⟨0, Nat.zero_le _, rfl, by simp [cnkIt], Rel.refl _ _ _⟩
 case round =>
  obtain ⟨i, hi', rfl, rfl, hrl⟩ := hrel
  have HRL : Hid (Rel lo hi w wr) := hrl
  clear hrl
  by_cases h : i < n
  ·have h' : (i : Int) < (n : Int) := by omega
   have hi0 : (0 : Int) ≤ (i : Int) := by omega
   obtain ⟨x, hx⟩ : ∃ x, l[i]? = some x := ⟨_, List.getElem?_eq_getElem (by rw [HN.out]; exact h)⟩
   have HX : Hid (l[i]? = some x) := hx
   have HSU := Lib.hid (cnkIt_succ hx)
   obtain ⟨K0, hK0⟩ : ∃ K : Nat, k0 + cnkIt l i = K := ⟨_, rfl⟩
   have HKK : Hid (k0 + cnkIt l i = K0) := hK0
   have HCB : Hid (K0 + cn1It x ≤ 100000000) := by
    show _ ≤ _
    have h1 := HCL.out (i + 1)
    have h2 := HKL.out
    have h3 := HSU.out
    omega
   have hK0b : K0 ≤ 100000000 := by have := HCB.out; omega
   have hK0c : K0 + 3 ≤ 100000000 := by have h9 := HCB.out; unfold cn1It at h9; omega
   have hK0p : 0 < K0 := by omega
   rw [hK0]
   clear hK0 hx
   have HM0 : Hid (∀ W, Calls Tryz.prog 39 #[.int .i64 ((K0 : Int))] W fun e w' => e = .returned (.string (sr.mark (K0 + 0))) ∧ Below W.heap.size W w') := fun W => by
    have := sr.mark_any (K0 + 0) (by omega) (by omega) W
    rwa [show ((K0 + 0 : Nat) : Int) = (K0 : Int) by omega] at this
   generalize sr.mark (K0 + 0) = s0 at *
   go_wp2_with (go_at_call 39; refine (HM0.out _).mono ?_; rintro e w0 ⟨rfl, hb0⟩; refine Hid.out ?_)
   refine Lib.hid ?_
   have HB0 : Hid (Rel lo hi w w0) := HRL.out.below hb0
   clear hb0 HM0 
   obtain ⟨u0_1, x0_1, y0_1⟩ := (HC.out i x HX.out).1
   obtain ⟨v0_1, g0_1, l0_1, f0_1⟩ := cell_shp HB0.out.2.2.2 HBK.out x0_1
   have HZ0_1 : Hid (isSl v0_1 = false) := l0_1.2 y0_1
   clear y0_1 l0_1
   have HR0_1 : Hid (Rel lo hi w (w0.setCell ⟨b, o + i * 5, none⟩ (.string s0))) := by
    obtain ⟨v9, g9, l9, f9⟩ := cell_shp HB0.out.2.2.2 HBK.out x0_1
    obtain ⟨_, _, y9⟩ := (HC.out i x HX.out).1
    exact HB0.out.set hl hh g9 (l9.2 (by obtain ⟨u9, x9, y9⟩ := (HC.out i x HX.out).1; rw [x0_1] at x9; cases x9; exact y9)) rfl
   have HM1 : Hid (∀ W, Calls Tryz.prog 39 #[.int .i64 ((K0 : Int) + 1)] W fun e w' => e = .returned (.string (sr.mark (K0 + 1))) ∧ Below W.heap.size W w') := fun W => by
    have := sr.mark_any (K0 + 1) (by omega) (by omega) W
    rwa [show ((K0 + 1 : Nat) : Int) = (K0 : Int) + 1 by omega] at this
   generalize sr.mark (K0 + 1) = s1 at *
   go_wp2_with (go_at_call 39; refine (HM1.out _).mono ?_; rintro e w1 ⟨rfl, hb1⟩; refine Hid.out ?_)
   refine Lib.hid ?_
   have HB1 : Hid (Rel lo hi w w1) := HR0_1.out.below hb1
   clear hb1 HM1 g0_1 f0_1
   obtain ⟨u1_2, x1_2, y1_2⟩ := (HC.out i x HX.out).2.1
   obtain ⟨v1_2, g1_2, l1_2, f1_2⟩ := cell_shp HB1.out.2.2.2 HBK.out x1_2
   have HZ1_2 : Hid (isSl v1_2 = false) := l1_2.2 y1_2
   clear y1_2 l1_2
   have HR1_2 : Hid (Rel lo hi w (w1.setCell ⟨b, o + i * 5 + 1, none⟩ (.string s1))) := by
    obtain ⟨v9, g9, l9, f9⟩ := cell_shp HB1.out.2.2.2 HBK.out x1_2
    obtain ⟨_, _, y9⟩ := (HC.out i x HX.out).2.1
    exact HB1.out.set hl hh g9 (l9.2 (by obtain ⟨u9, x9, y9⟩ := (HC.out i x HX.out).2.1; rw [x1_2] at x9; cases x9; exact y9)) rfl
   obtain ⟨a2, c2, p2, s2⟩ := (HC.out i x HX.out).2.2.2.1
   have HM2 : Hid (∀ W, Rel lo hi w W → Calls Tryz.prog 14 #[.slice a2 x.fRefs.length c2, .int .i64 ((K0 : Int) + 1 + 1)] W fun e w' => e = .returned (.int .i64 ((K0 + 2 + cnS x.fRefs : Nat) : Int)) ∧ Rel lo hi W w') := fun W h => by
    have := markS_all lo hi a2 c2 x.fRefs (K0 + 2) W (s2.shp h.2.2.2) (by omega) (by have h9 := HCB.out;  unfold cn1It at h9; omega)
    rwa [show ((K0 + 2 : Nat) : Int) = (K0 : Int) + 1 + 1 by omega] at this
   obtain ⟨v2, g2, l2, f2⟩ := cell_shp HB1.out.2.2.2 HBK.out p2
   rw [l2.1 rfl] at g2
   obtain ⟨z2, hz2⟩ : ∃ z, x.fRefs.length = z := ⟨_, rfl⟩
   obtain ⟨K3, hK3⟩ : ∃ z : Nat, K0 + 2 + cnS x.fRefs = z := ⟨_, rfl⟩
   have HK3 : Hid (K0 + 2 + cnS x.fRefs = K3) := hK3
   have hKb3 : K3 ≤ 100000000 ∧ 0 < K3 := ⟨by have h9 := HCB.out;  unfold cn1It at h9; omega, by omega⟩
   rw [hK3, hz2] at HM2
   rw [hz2] at g2
   clear hK3 hz2 l2 s2 p2
   go_wp2_with (go_at_call 14; refine (HM2.out _ HR1_2.out).mono ?_; rintro e w2 ⟨rfl, hb2⟩; refine Hid.out ?_)
   refine Lib.hid ?_
   have HB2 : Hid (Rel lo hi w w2) := HR1_2.out.trans hb2
   clear hb2 HM2 g2 f2 g1_2 f1_2
   have HM3 : Hid (∀ W, Calls Tryz.prog 39 #[.int .i64 ((K3 : Int))] W fun e w' => e = .returned (.string (sr.mark (K3 + 0))) ∧ Below W.heap.size W w') := fun W => by
    have := sr.mark_any (K3 + 0) (by omega) (by omega) W
    rwa [show ((K3 + 0 : Nat) : Int) = (K3 : Int) by omega] at this
   generalize sr.mark (K3 + 0) = s3 at *
   go_wp2_with (go_at_call 39; refine (HM3.out _).mono ?_; rintro e w3 ⟨rfl, hb3⟩; refine Hid.out ?_)
   refine Lib.hid ?_
   have HB3 : Hid (Rel lo hi w w3) := HB2.out.below hb3
   clear hb3 HM3 
   obtain ⟨u3_4, x3_4, y3_4⟩ := (HC.out i x HX.out).2.2.1
   obtain ⟨v3_4, g3_4, l3_4, f3_4⟩ := cell_shp HB3.out.2.2.2 HBK.out x3_4
   have HZ3_4 : Hid (isSl v3_4 = false) := l3_4.2 y3_4
   clear y3_4 l3_4
   have HR3_4 : Hid (Rel lo hi w (w3.setCell ⟨b, o + i * 5 + 3, none⟩ (.string s3))) := by
    obtain ⟨v9, g9, l9, f9⟩ := cell_shp HB3.out.2.2.2 HBK.out x3_4
    obtain ⟨_, _, y9⟩ := (HC.out i x HX.out).2.2.1
    exact HB3.out.set hl hh g9 (l9.2 (by obtain ⟨u9, x9, y9⟩ := (HC.out i x HX.out).2.2.1; rw [x3_4] at x9; cases x9; exact y9)) rfl
   obtain ⟨a4, c4, p4, s4⟩ := (HC.out i x HX.out).2.2.2.2
   have HM4 : Hid (∀ W, Rel lo hi w W → Calls Tryz.prog 15 #[.slice a4 x.fTree.length c4, .int .i64 ((K3 : Int) + 1)] W fun e w' => e = .returned (.int .i64 ((K3 + 1 + cnEt x.fTree : Nat) : Int)) ∧ Rel lo hi W w') := fun W h => by
    have := markEt_any lo hi a4 c4 x.fTree (K3 + 1) W (s4.shp h.2.2.2) (by omega) (by have h9 := HCB.out; have h92 := HK3.out; unfold cn1It at h9; omega)
    rwa [show ((K3 + 1 : Nat) : Int) = (K3 : Int) + 1 by omega] at this
   obtain ⟨v4, g4, l4, f4⟩ := cell_shp HB3.out.2.2.2 HBK.out p4
   rw [l4.1 rfl] at g4
   obtain ⟨z4, hz4⟩ : ∃ z, x.fTree.length = z := ⟨_, rfl⟩
   obtain ⟨K5, hK5⟩ : ∃ z : Nat, K3 + 1 + cnEt x.fTree = z := ⟨_, rfl⟩
   have HK5 := Lib.hid hK5
   have hKb5 : K5 ≤ 100000000 ∧ 0 < K5 := ⟨by have h9 := HCB.out; have h92 := HK3.out; unfold cn1It at h9; omega, by omega⟩
   rw [hK5, hz4] at HM4
   rw [hz4] at g4
   clear hK5 hz4 l4 s4 p4
   go_wp2_with (go_at_call 15; refine (HM4.out _ HR3_4.out).mono ?_; rintro e w4 ⟨rfl, hb4⟩; refine Hid.out ?_)
   refine Lib.hid ?_
   have HB4 : Hid (Rel lo hi w w4) := HR3_4.out.trans hb4
   clear hb4 HM4 g4 f4 g3_4 f3_4
   go_wp2
   go_roundw
   case rel => exact ⟨i + 1, by omega, by go_num, by (rw [HSU.out]; unfold cn1It; have := HK3.out; have := HK5.out; have := HKK.out; go_num) , HB4.out⟩
   case measure => simp [intOf]; omega
  ·have h' : ¬ (i : Int) < (n : Int) := by omega
   obtain rfl : i = n := by omega
   have HE : Hid (cnkIt l i = cnIt l) := by show _ = _; unfold cnIt; rw [HN.out]
   rw [HE.out]
   go_wp2
   go_ret
   exact ⟨rfl, HRL.out⟩
def MGe (lo hi : Nat) (w : World) (a : Option Addr) (l : List Ge) : Prop := ∃ b o, a = some ⟨b, o, none⟩ ∧ lo ≤ b ∧ b < hi ∧ (∃ cs t, w.heap[b]? = some (.cells cs t (0, 0))) ∧ ∀ (i : Nat) (x : Ge), l[i]? = some x → (∃ v, w.cell? ⟨b, o + i * 2, none⟩ = some v ∧ isSl v = false) ∧ (∃ v, w.cell? ⟨b, o + i * 2 + 1, none⟩ = some v ∧ isSl v = false)
def cn1Ge (x : Ge) : Nat := 2
def cnkGe (l : List Ge) (k : Nat) : Nat := ((l.take k).map cn1Ge).sum
def cnGe (l : List Ge) : Nat := cnkGe l l.length
theorem cnkGe_succ {l : List Ge} {k : Nat} {x : Ge} (h : l[k]? = some x) : cnkGe l (k + 1) = cnkGe l k + cn1Ge x := by
 unfold cnkGe
 rw [List.take_add_one, h]
 simp
theorem cnkGe_le (l : List Ge) (k : Nat) : cnkGe l k ≤ cnGe l := by
 unfold cnGe cnkGe
 rw [List.take_length]
 have : ((l.take k).map cn1Ge).sum + ((l.drop k).map cn1Ge).sum = (l.map cn1Ge).sum := by rw [← List.sum_append_nat, ← List.map_append, List.take_append_drop]
 omega
theorem cnGe_len (l : List Ge) : l.length ≤ cnGe l := by
 unfold cnGe cnkGe
 rw [List.take_length]
 induction l with
 | nil => simp
 | cons y l ih =>
  rw [List.map_cons, List.sum_cons, List.length_cons]
  have : 1 ≤ cn1Ge y := by unfold cn1Ge; omega
  omega
theorem cnGe_le (l : List Ge) : cnGe l ≤ 8 * wtGe l := by
 have h1 : ∀ x : Ge, cn1Ge x ≤ 8 * (1 + wt1Ge x) := fun x => by unfold cn1Ge wt1Ge;  omega
 unfold cnGe cnkGe wtGe wtkGe
 rw [List.take_length]
 induction l with
 | nil => simp
 | cons y l ih =>
  rw [List.map_cons, List.map_cons, List.sum_cons, List.sum_cons, List.length_cons]
  have := h1 y
  omega
theorem MGe.shp {lo hi : Nat} {w w' : World} {a : Option Addr} {l : List Ge} (h : MGe lo hi w a l) (k : Shp w w') : MGe lo hi w' a l := by
 obtain ⟨b, o, e, hA, hA2, hB, hX⟩ := h
 refine ⟨b, o, e, hA, hA2, blk_shp k hB, fun i x hx => ?_⟩
 obtain ⟨h0, h1⟩ := hX i x hx
 exact ⟨(by obtain ⟨v, g1, g2⟩ := h0; obtain ⟨v', k1, k2, _⟩ := cell_shp k hB g1; exact ⟨v', k1, k2.2 g2⟩), (by obtain ⟨v, g1, g2⟩ := h1; obtain ⟨v', k1, k2, _⟩ := cell_shp k hB g1; exact ⟨v', k1, k2.2 g2⟩)⟩
theorem MGe.src {lo : Nat} {w : World} {a : Option Addr} {l : List Ge} (h : SrcGe (some lo) w a l) : MGe lo w.heap.size w a l := by
 rcases h with ⟨h, _⟩ | ⟨b, o, e, h1, h2⟩
 ·cases h
 ·obtain ⟨g1, cs, t, g2⟩ := h1 lo rfl
  refine ⟨b, o, e, g1, (Array.getElem?_eq_some_iff.1 g2).1, ⟨cs, t, g2⟩, fun i x hx => ?_⟩
  obtain ⟨q0, q1⟩ := h2 i x hx
  exact ⟨⟨_, q0, rfl⟩, ⟨_, q1, rfl⟩⟩
theorem markGe_any (lo hi : Nat) (a : Option Addr) (c : Nat) (l : List Ge) (k0 : Nat) (w : World) (hM : MGe lo hi w a l) (h0 : 0 < k0) (hk : k0 + cnGe l ≤ 100000000) :
  Calls Tryz.prog 72 #[.slice a l.length c, .int .i64 (k0 : Int)] w fun e w' => e = .returned (.int .i64 ((k0 + cnGe l : Nat) : Int)) ∧ Rel lo hi w w' := by
 obtain ⟨b, o, rfl, hl, hh, hbk, hc⟩ := hM
 have HBK := Lib.hid hbk
 have HC := Lib.hid hc
 have HCL := Lib.hid (cnkGe_le l)
 have HKL : Hid (k0 + cnGe l ≤ 100000000) := hk
 clear hbk hc hk
 obtain ⟨n, hn⟩ : ∃ n, l.length = n := ⟨_, rfl⟩
 have HN : Hid (l.length = n) := hn
 have hn9 : n ≤ 100000000 := by have h1 := cnGe_len l; have h2 := HKL.out; omega
 rw [hn]
 clear hn
 go_enter Tryz.func72, Tryz.ntmps72
 go_wp2
 go_loopw [1, 5] (fun a x wr => ∃ (i : Nat), i ≤ n ∧ x = .int .i64 (i : Int) ∧ a = .int .i64 ((k0 + cnkGe l i : Nat) : Int) ∧ Rel lo hi w wr) (fun _ x _ => n - (intOf x).toNat)
 case atStart => exact ⟨0, Nat.zero_le _, rfl, by simp [cnkGe], Rel.refl _ _ _⟩
 case round =>
  obtain ⟨i, hi', rfl, rfl, hrl⟩ := hrel
  have HRL : Hid (Rel lo hi w wr) := hrl
  clear hrl
  by_cases h : i < n
  ·have h' : (i : Int) < (n : Int) := by omega
   have hi0 : (0 : Int) ≤ (i : Int) := by omega
   obtain ⟨x, hx⟩ : ∃ x, l[i]? = some x := ⟨_, List.getElem?_eq_getElem (by rw [HN.out]; exact h)⟩
   have HX : Hid (l[i]? = some x) := hx
   have HSU := Lib.hid (cnkGe_succ hx)
   obtain ⟨K0, hK0⟩ : ∃ K : Nat, k0 + cnkGe l i = K := ⟨_, rfl⟩
   have HKK : Hid (k0 + cnkGe l i = K0) := hK0
   have HCB : Hid (K0 + cn1Ge x ≤ 100000000) := by
    show _ ≤ _
    have h1 := HCL.out (i + 1)
    have h2 := HKL.out
    have h3 := HSU.out
    omega
   have hK0b : K0 ≤ 100000000 := by have := HCB.out; omega
   have hK0c : K0 + 2 ≤ 100000000 := by have h9 := HCB.out; unfold cn1Ge at h9; omega
   have hK0p : 0 < K0 := by omega
   rw [hK0]
   clear hK0 hx
   obtain ⟨u0_0, x0_0, y0_0⟩ := (HC.out i x HX.out).1
   obtain ⟨v0_0, g0_0, l0_0, f0_0⟩ := cell_shp HRL.out.2.2.2 HBK.out x0_0
   have HZ0_0 : Hid (isSl v0_0 = false) := l0_0.2 y0_0
   clear y0_0 l0_0
   have HR0_0 : Hid (Rel lo hi w (wr.setCell ⟨b, o + i * 2, none⟩ (.int .i64 ((K0 : Int))))) := by
    obtain ⟨v9, g9, l9, f9⟩ := cell_shp HRL.out.2.2.2 HBK.out x0_0
    obtain ⟨_, _, y9⟩ := (HC.out i x HX.out).1
    exact HRL.out.set hl hh g9 (l9.2 (by obtain ⟨u9, x9, y9⟩ := (HC.out i x HX.out).1; rw [x0_0] at x9; cases x9; exact y9)) rfl
   have HM1 : Hid (∀ W, Calls Tryz.prog 39 #[.int .i64 ((K0 : Int) + 1)] W fun e w' => e = .returned (.string (sr.mark (K0 + 1))) ∧ Below W.heap.size W w') := fun W => by
    have := sr.mark_any (K0 + 1) (by omega) (by omega) W
    rwa [show ((K0 + 1 : Nat) : Int) = (K0 : Int) + 1 by omega] at this
   generalize sr.mark (K0 + 1) = s1 at *
   go_wp2_with (go_at_call 39; refine (HM1.out _).mono ?_; rintro e w1 ⟨rfl, hb1⟩; refine Hid.out ?_)
   refine Lib.hid ?_
   have HB1 : Hid (Rel lo hi w w1) := HR0_0.out.below hb1
   clear hb1 HM1 g0_0 f0_0
   obtain ⟨u1_1, x1_1, y1_1⟩ := (HC.out i x HX.out).2
   obtain ⟨v1_1, g1_1, l1_1, f1_1⟩ := cell_shp HB1.out.2.2.2 HBK.out x1_1
   have HZ1_1 : Hid (isSl v1_1 = false) := l1_1.2 y1_1
   clear y1_1 l1_1
   have HR1_1 : Hid (Rel lo hi w (w1.setCell ⟨b, o + i * 2 + 1, none⟩ (.string s1))) := by
    obtain ⟨v9, g9, l9, f9⟩ := cell_shp HB1.out.2.2.2 HBK.out x1_1
    obtain ⟨_, _, y9⟩ := (HC.out i x HX.out).2
    exact HB1.out.set hl hh g9 (l9.2 (by obtain ⟨u9, x9, y9⟩ := (HC.out i x HX.out).2; rw [x1_1] at x9; cases x9; exact y9)) rfl
   go_wp2
   go_roundw
   case rel => exact ⟨i + 1, by omega, by go_num, by (rw [HSU.out]; unfold cn1Ge;  have := HKK.out; go_num) , HR1_1.out⟩
   case measure => simp [intOf]; omega
  ·have h' : ¬ (i : Int) < (n : Int) := by omega
   obtain rfl : i = n := by omega
   have HE : Hid (cnkGe l i = cnGe l) := by show _ = _; unfold cnGe; rw [HN.out]
   rw [HE.out]
   go_wp2
   go_ret
   exact ⟨rfl, HRL.out⟩
def MPr (lo hi : Nat) (w : World) (a : Option Addr) (l : List Pr) : Prop := ∃ b o, a = some ⟨b, o, none⟩ ∧ lo ≤ b ∧ b < hi ∧ (∃ cs t, w.heap[b]? = some (.cells cs t (0, 0))) ∧ ∀ (i : Nat) (x : Pr), l[i]? = some x → (∃ v, w.cell? ⟨b, o + i * 3, none⟩ = some v ∧ isSl v = false) ∧ (∃ v, w.cell? ⟨b, o + i * 3 + 1, none⟩ = some v ∧ isSl v = false) ∧ (∃ a2 c2, w.cell? ⟨b, o + i * 3 + 2, none⟩ = some (.slice a2 x.fGens.length c2) ∧ MGe lo hi w a2 x.fGens)
def cn1Pr (x : Pr) : Nat := 2 + cnGe x.fGens
def cnkPr (l : List Pr) (k : Nat) : Nat := ((l.take k).map cn1Pr).sum
def cnPr (l : List Pr) : Nat := cnkPr l l.length
theorem cnkPr_succ {l : List Pr} {k : Nat} {x : Pr} (h : l[k]? = some x) : cnkPr l (k + 1) = cnkPr l k + cn1Pr x := by
 unfold cnkPr
 rw [List.take_add_one, h]
 simp
theorem cnkPr_le (l : List Pr) (k : Nat) : cnkPr l k ≤ cnPr l := by
 unfold cnPr cnkPr
 rw [List.take_length]
 have : ((l.take k).map cn1Pr).sum + ((l.drop k).map cn1Pr).sum = (l.map cn1Pr).sum := by rw [← List.sum_append_nat, ← List.map_append, List.take_append_drop]
 omega
theorem cnPr_len (l : List Pr) : l.length ≤ cnPr l := by
 unfold cnPr cnkPr
 rw [List.take_length]
 induction l with
 | nil => simp
 | cons y l ih =>
  rw [List.map_cons, List.sum_cons, List.length_cons]
  have : 1 ≤ cn1Pr y := by unfold cn1Pr; omega
  omega
theorem cnPr_le (l : List Pr) : cnPr l ≤ 8 * wtPr l := by
 have h1 : ∀ x : Pr, cn1Pr x ≤ 8 * (1 + wt1Pr x) := fun x => by unfold cn1Pr wt1Pr; have := cnGe_le x.fGens; omega
 unfold cnPr cnkPr wtPr wtkPr
 rw [List.take_length]
 induction l with
 | nil => simp
 | cons y l ih =>
  rw [List.map_cons, List.map_cons, List.sum_cons, List.sum_cons, List.length_cons]
  have := h1 y
  omega
theorem MPr.shp {lo hi : Nat} {w w' : World} {a : Option Addr} {l : List Pr} (h : MPr lo hi w a l) (k : Shp w w') : MPr lo hi w' a l := by
 obtain ⟨b, o, e, hA, hA2, hB, hX⟩ := h
 refine ⟨b, o, e, hA, hA2, blk_shp k hB, fun i x hx => ?_⟩
 obtain ⟨h0, h1, h2⟩ := hX i x hx
 exact ⟨(by obtain ⟨v, g1, g2⟩ := h0; obtain ⟨v', k1, k2, _⟩ := cell_shp k hB g1; exact ⟨v', k1, k2.2 g2⟩), (by obtain ⟨v, g1, g2⟩ := h1; obtain ⟨v', k1, k2, _⟩ := cell_shp k hB g1; exact ⟨v', k1, k2.2 g2⟩), (by obtain ⟨a, c, g1, g2⟩ := h2; obtain ⟨v', k1, k2, _⟩ := cell_shp k hB g1; exact ⟨a, c, by rw [k1, k2.1 rfl], g2.shp k⟩)⟩
theorem MPr.src {lo : Nat} {w : World} {a : Option Addr} {l : List Pr} (h : SrcPr (some lo) w a l) : MPr lo w.heap.size w a l := by
 rcases h with ⟨h, _⟩ | ⟨b, o, e, h1, h2⟩
 ·cases h
 ·obtain ⟨g1, cs, t, g2⟩ := h1 lo rfl
  refine ⟨b, o, e, g1, (Array.getElem?_eq_some_iff.1 g2).1, ⟨cs, t, g2⟩, fun i x hx => ?_⟩
  obtain ⟨a2, c2, q0, q1, q2, s2, t2⟩ := h2 i x hx
  exact ⟨⟨_, q0, rfl⟩, ⟨_, q1, rfl⟩, ⟨a2, c2, q2, MGe.src s2⟩⟩
theorem markPr_any (lo hi : Nat) (a : Option Addr) (c : Nat) (l : List Pr) (k0 : Nat) (w : World) (hM : MPr lo hi w a l) (h0 : 0 < k0) (hk : k0 + cnPr l ≤ 100000000) :
  Calls Tryz.prog 36 #[.slice a l.length c, .int .i64 (k0 : Int)] w fun e w' => e = .returned (.int .i64 ((k0 + cnPr l : Nat) : Int)) ∧ Rel lo hi w w' := by
 obtain ⟨b, o, rfl, hl, hh, hbk, hc⟩ := hM
 have HBK := Lib.hid hbk
 have HC := Lib.hid hc
 have HCL := Lib.hid (cnkPr_le l)
 have HKL : Hid (k0 + cnPr l ≤ 100000000) := hk
 clear hbk hc hk
 obtain ⟨n, hn⟩ : ∃ n, l.length = n := ⟨_, rfl⟩
 have HN : Hid (l.length = n) := hn
 have hn9 : n ≤ 100000000 := by have h1 := cnPr_len l; have h2 := HKL.out; omega
 rw [hn]
 clear hn
 go_enter Tryz.func36, Tryz.ntmps36
 go_wp2
 go_loopw [1, 5] (fun a x wr => ∃ (i : Nat), i ≤ n ∧ x = .int .i64 (i : Int) ∧ a = .int .i64 ((k0 + cnkPr l i : Nat) : Int) ∧ Rel lo hi w wr) (fun _ x _ => n - (intOf x).toNat)
 case atStart => exact ⟨0, Nat.zero_le _, rfl, by simp [cnkPr], Rel.refl _ _ _⟩
 case round =>
  obtain ⟨i, hi', rfl, rfl, hrl⟩ := hrel
  have HRL : Hid (Rel lo hi w wr) := hrl
  clear hrl
  by_cases h : i < n
  ·have h' : (i : Int) < (n : Int) := by omega
   have hi0 : (0 : Int) ≤ (i : Int) := by omega
   obtain ⟨x, hx⟩ : ∃ x, l[i]? = some x := ⟨_, List.getElem?_eq_getElem (by rw [HN.out]; exact h)⟩
   have HX : Hid (l[i]? = some x) := hx
   have HSU := Lib.hid (cnkPr_succ hx)
   obtain ⟨K0, hK0⟩ : ∃ K : Nat, k0 + cnkPr l i = K := ⟨_, rfl⟩
   have HKK : Hid (k0 + cnkPr l i = K0) := hK0
   have HCB : Hid (K0 + cn1Pr x ≤ 100000000) := by
    show _ ≤ _
    have h1 := HCL.out (i + 1)
    have h2 := HKL.out
    have h3 := HSU.out
    omega
   have hK0b : K0 ≤ 100000000 := by have := HCB.out; omega
   have hK0c : K0 + 2 ≤ 100000000 := by have h9 := HCB.out; unfold cn1Pr at h9; omega
   have hK0p : 0 < K0 := by omega
   rw [hK0]
   clear hK0 hx
   have HM0 : Hid (∀ W, Calls Tryz.prog 39 #[.int .i64 ((K0 : Int))] W fun e w' => e = .returned (.string (sr.mark (K0 + 0))) ∧ Below W.heap.size W w') := fun W => by
    have := sr.mark_any (K0 + 0) (by omega) (by omega) W
    rwa [show ((K0 + 0 : Nat) : Int) = (K0 : Int) by omega] at this
   generalize sr.mark (K0 + 0) = s0 at *
   go_wp2_with (go_at_call 39; refine (HM0.out _).mono ?_; rintro e w0 ⟨rfl, hb0⟩; refine Hid.out ?_)
   refine Lib.hid ?_
   have HB0 : Hid (Rel lo hi w w0) := HRL.out.below hb0
   clear hb0 HM0 
   obtain ⟨u0_1, x0_1, y0_1⟩ := (HC.out i x HX.out).1
   obtain ⟨v0_1, g0_1, l0_1, f0_1⟩ := cell_shp HB0.out.2.2.2 HBK.out x0_1
   have HZ0_1 : Hid (isSl v0_1 = false) := l0_1.2 y0_1
   clear y0_1 l0_1
   have HR0_1 : Hid (Rel lo hi w (w0.setCell ⟨b, o + i * 3, none⟩ (.string s0))) := by
    obtain ⟨v9, g9, l9, f9⟩ := cell_shp HB0.out.2.2.2 HBK.out x0_1
    obtain ⟨_, _, y9⟩ := (HC.out i x HX.out).1
    exact HB0.out.set hl hh g9 (l9.2 (by obtain ⟨u9, x9, y9⟩ := (HC.out i x HX.out).1; rw [x0_1] at x9; cases x9; exact y9)) rfl
   obtain ⟨u1_1, x1_1, y1_1⟩ := (HC.out i x HX.out).2.1
   obtain ⟨v1_1, g1_1, l1_1, f1_1⟩ := cell_shp HB0.out.2.2.2 HBK.out x1_1
   have HZ1_1 : Hid (isSl v1_1 = false) := l1_1.2 y1_1
   clear y1_1 l1_1
   have HR1_1 : Hid (Rel lo hi w ((w0.setCell ⟨b, o + i * 3, none⟩ (.string s0)).setCell ⟨b, o + i * 3 + 1, none⟩ (.int .i64 ((K0 : Int) + 1)))) := by
    obtain ⟨v9, g9, l9, f9⟩ := cell_shp HR0_1.out.2.2.2 HBK.out x1_1
    obtain ⟨_, _, y9⟩ := (HC.out i x HX.out).2.1
    exact HR0_1.out.set hl hh g9 (l9.2 (by obtain ⟨u9, x9, y9⟩ := (HC.out i x HX.out).2.1; rw [x1_1] at x9; cases x9; exact y9)) rfl
   obtain ⟨a2, c2, p2, s2⟩ := (HC.out i x HX.out).2.2
   have HM2 : Hid (∀ W, Rel lo hi w W → Calls Tryz.prog 72 #[.slice a2 x.fGens.length c2, .int .i64 ((K0 : Int) + 1 + 1)] W fun e w' => e = .returned (.int .i64 ((K0 + 2 + cnGe x.fGens : Nat) : Int)) ∧ Rel lo hi W w') := fun W h => by
    have := markGe_any lo hi a2 c2 x.fGens (K0 + 2) W (s2.shp h.2.2.2) (by omega) (by have h9 := HCB.out;  unfold cn1Pr at h9; omega)
    rwa [show ((K0 + 2 : Nat) : Int) = (K0 : Int) + 1 + 1 by omega] at this
   obtain ⟨v2, g2, l2, f2⟩ := cell_shp HB0.out.2.2.2 HBK.out p2
   rw [l2.1 rfl] at g2
   obtain ⟨z2, hz2⟩ : ∃ z, x.fGens.length = z := ⟨_, rfl⟩
   obtain ⟨K3, hK3⟩ : ∃ z : Nat, K0 + 2 + cnGe x.fGens = z := ⟨_, rfl⟩
   have HK3 := Lib.hid hK3
   have hKb3 : K3 ≤ 100000000 ∧ 0 < K3 := ⟨by have h9 := HCB.out;  unfold cn1Pr at h9; omega, by omega⟩
   rw [hK3, hz2] at HM2
   rw [hz2] at g2
   clear hK3 hz2 l2 s2 p2
   go_wp2_with (go_at_call 72; refine (HM2.out _ HR1_1.out).mono ?_; rintro e w2 ⟨rfl, hb2⟩; refine Hid.out ?_)
   refine Lib.hid ?_
   have HB2 : Hid (Rel lo hi w w2) := HR1_1.out.trans hb2
   clear hb2 HM2 g2 f2 g0_1 f0_1 g1_1 f1_1
   go_wp2
   go_roundw
   case rel => exact ⟨i + 1, by omega, by go_num, by (rw [HSU.out]; unfold cn1Pr; have := HK3.out; have := HKK.out; go_num) , HB2.out⟩
   case measure => simp [intOf]; omega
  ·have h' : ¬ (i : Int) < (n : Int) := by omega
   obtain rfl : i = n := by omega
   have HE : Hid (cnkPr l i = cnPr l) := by show _ = _; unfold cnPr; rw [HN.out]
   rw [HE.out]
   go_wp2
   go_ret
   exact ⟨rfl, HRL.out⟩
def MPe (lo hi : Nat) (w : World) (a : Option Addr) (l : List Pe) : Prop := ∃ b o, a = some ⟨b, o, none⟩ ∧ lo ≤ b ∧ b < hi ∧ (∃ cs t, w.heap[b]? = some (.cells cs t (0, 0))) ∧ ∀ (i : Nat) (x : Pe), l[i]? = some x → (∃ v, w.cell? ⟨b, o + i * 3, none⟩ = some v ∧ isSl v = false) ∧ (∃ v, w.cell? ⟨b, o + i * 3 + 2, none⟩ = some v ∧ isSl v = false) ∧ (∃ a1 c1, w.cell? ⟨b, o + i * 3 + 1, none⟩ = some (.slice a1 x.fTree.length c1) ∧ MEt lo hi w a1 x.fTree)
def cn1Pe (x : Pe) : Nat := 2 + cnEt x.fTree
def cnkPe (l : List Pe) (k : Nat) : Nat := ((l.take k).map cn1Pe).sum
def cnPe (l : List Pe) : Nat := cnkPe l l.length
theorem cnkPe_succ {l : List Pe} {k : Nat} {x : Pe} (h : l[k]? = some x) : cnkPe l (k + 1) = cnkPe l k + cn1Pe x := by
 unfold cnkPe
 rw [List.take_add_one, h]
 simp
theorem cnkPe_le (l : List Pe) (k : Nat) : cnkPe l k ≤ cnPe l := by
 unfold cnPe cnkPe
 rw [List.take_length]
 have : ((l.take k).map cn1Pe).sum + ((l.drop k).map cn1Pe).sum = (l.map cn1Pe).sum := by rw [← List.sum_append_nat, ← List.map_append, List.take_append_drop]
 omega
theorem cnPe_len (l : List Pe) : l.length ≤ cnPe l := by
 unfold cnPe cnkPe
 rw [List.take_length]
 induction l with
 | nil => simp
 | cons y l ih =>
  rw [List.map_cons, List.sum_cons, List.length_cons]
  have : 1 ≤ cn1Pe y := by unfold cn1Pe; omega
  omega
theorem cnPe_le (l : List Pe) : cnPe l ≤ 8 * wtPe l := by
 have h1 : ∀ x : Pe, cn1Pe x ≤ 8 * (1 + wt1Pe x) := fun x => by unfold cn1Pe wt1Pe; have := cnEt_le x.fTree; omega
 unfold cnPe cnkPe wtPe wtkPe
 rw [List.take_length]
 induction l with
 | nil => simp
 | cons y l ih =>
  rw [List.map_cons, List.map_cons, List.sum_cons, List.sum_cons, List.length_cons]
  have := h1 y
  omega
theorem MPe.shp {lo hi : Nat} {w w' : World} {a : Option Addr} {l : List Pe} (h : MPe lo hi w a l) (k : Shp w w') : MPe lo hi w' a l := by
 obtain ⟨b, o, e, hA, hA2, hB, hX⟩ := h
 refine ⟨b, o, e, hA, hA2, blk_shp k hB, fun i x hx => ?_⟩
 obtain ⟨h0, h1, h2⟩ := hX i x hx
 exact ⟨(by obtain ⟨v, g1, g2⟩ := h0; obtain ⟨v', k1, k2, _⟩ := cell_shp k hB g1; exact ⟨v', k1, k2.2 g2⟩), (by obtain ⟨v, g1, g2⟩ := h1; obtain ⟨v', k1, k2, _⟩ := cell_shp k hB g1; exact ⟨v', k1, k2.2 g2⟩), (by obtain ⟨a, c, g1, g2⟩ := h2; obtain ⟨v', k1, k2, _⟩ := cell_shp k hB g1; exact ⟨a, c, by rw [k1, k2.1 rfl], g2.shp k⟩)⟩
theorem MPe.src {lo : Nat} {w : World} {a : Option Addr} {l : List Pe} (h : SrcPe (some lo) w a l) : MPe lo w.heap.size w a l := by
 rcases h with ⟨h, _⟩ | ⟨b, o, e, h1, h2⟩
 ·cases h
 ·obtain ⟨g1, cs, t, g2⟩ := h1 lo rfl
  refine ⟨b, o, e, g1, (Array.getElem?_eq_some_iff.1 g2).1, ⟨cs, t, g2⟩, fun i x hx => ?_⟩
  obtain ⟨a1, c1, q0, q1, q2, s1, t1⟩ := h2 i x hx
  exact ⟨⟨_, q0, rfl⟩, ⟨_, q2, rfl⟩, ⟨a1, c1, q1, MEt.src s1⟩⟩
theorem markPe_any (lo hi : Nat) (a : Option Addr) (c : Nat) (l : List Pe) (k0 : Nat) (w : World) (hM : MPe lo hi w a l) (h0 : 0 < k0) (hk : k0 + cnPe l ≤ 100000000) :
  Calls Tryz.prog 37 #[.slice a l.length c, .int .i64 (k0 : Int)] w fun e w' => e = .returned (.int .i64 ((k0 + cnPe l : Nat) : Int)) ∧ Rel lo hi w w' := by
 obtain ⟨b, o, rfl, hl, hh, hbk, hc⟩ := hM
 have HBK := Lib.hid hbk
 have HC := Lib.hid hc
 have HCL := Lib.hid (cnkPe_le l)
 have HKL : Hid (k0 + cnPe l ≤ 100000000) := hk
 clear hbk hc hk
 obtain ⟨n, hn⟩ : ∃ n, l.length = n := ⟨_, rfl⟩
 have HN : Hid (l.length = n) := hn
 have hn9 : n ≤ 100000000 := by have h1 := cnPe_len l; have h2 := HKL.out; omega
 rw [hn]
 clear hn
 go_enter Tryz.func37, Tryz.ntmps37
 go_wp2
 go_loopw [1, 5] (fun a x wr => ∃ (i : Nat), i ≤ n ∧ x = .int .i64 (i : Int) ∧ a = .int .i64 ((k0 + cnkPe l i : Nat) : Int) ∧ Rel lo hi w wr) (fun _ x _ => n - (intOf x).toNat)
 case atStart => exact ⟨0, Nat.zero_le _, rfl, by simp [cnkPe], Rel.refl _ _ _⟩
 case round =>
  obtain ⟨i, hi', rfl, rfl, hrl⟩ := hrel
  have HRL : Hid (Rel lo hi w wr) := hrl
  clear hrl
  by_cases h : i < n
  ·have h' : (i : Int) < (n : Int) := by omega
   have hi0 : (0 : Int) ≤ (i : Int) := by omega
   obtain ⟨x, hx⟩ : ∃ x, l[i]? = some x := ⟨_, List.getElem?_eq_getElem (by rw [HN.out]; exact h)⟩
   have HX : Hid (l[i]? = some x) := hx
   have HSU := Lib.hid (cnkPe_succ hx)
   obtain ⟨K0, hK0⟩ : ∃ K : Nat, k0 + cnkPe l i = K := ⟨_, rfl⟩
   have HKK : Hid (k0 + cnkPe l i = K0) := hK0
   have HCB : Hid (K0 + cn1Pe x ≤ 100000000) := by
    show _ ≤ _
    have h1 := HCL.out (i + 1)
    have h2 := HKL.out
    have h3 := HSU.out
    omega
   have hK0b : K0 ≤ 100000000 := by have := HCB.out; omega
   have hK0c : K0 + 2 ≤ 100000000 := by have h9 := HCB.out; unfold cn1Pe at h9; omega
   have hK0p : 0 < K0 := by omega
   rw [hK0]
   clear hK0 hx
   have HM0 : Hid (∀ W, Calls Tryz.prog 39 #[.int .i64 ((K0 : Int))] W fun e w' => e = .returned (.string (sr.mark (K0 + 0))) ∧ Below W.heap.size W w') := fun W => by
    have := sr.mark_any (K0 + 0) (by omega) (by omega) W
    rwa [show ((K0 + 0 : Nat) : Int) = (K0 : Int) by omega] at this
   generalize sr.mark (K0 + 0) = s0 at *
   go_wp2_with (go_at_call 39; refine (HM0.out _).mono ?_; rintro e w0 ⟨rfl, hb0⟩; refine Hid.out ?_)
   refine Lib.hid ?_
   have HB0 : Hid (Rel lo hi w w0) := HRL.out.below hb0
   clear hb0 HM0 
   obtain ⟨u0_1, x0_1, y0_1⟩ := (HC.out i x HX.out).1
   obtain ⟨v0_1, g0_1, l0_1, f0_1⟩ := cell_shp HB0.out.2.2.2 HBK.out x0_1
   have HZ0_1 : Hid (isSl v0_1 = false) := l0_1.2 y0_1
   clear y0_1 l0_1
   have HR0_1 : Hid (Rel lo hi w (w0.setCell ⟨b, o + i * 3, none⟩ (.string s0))) := by
    obtain ⟨v9, g9, l9, f9⟩ := cell_shp HB0.out.2.2.2 HBK.out x0_1
    obtain ⟨_, _, y9⟩ := (HC.out i x HX.out).1
    exact HB0.out.set hl hh g9 (l9.2 (by obtain ⟨u9, x9, y9⟩ := (HC.out i x HX.out).1; rw [x0_1] at x9; cases x9; exact y9)) rfl
   obtain ⟨a1, c1, p1, s1⟩ := (HC.out i x HX.out).2.2
   have HM1 : Hid (∀ W, Rel lo hi w W → Calls Tryz.prog 15 #[.slice a1 x.fTree.length c1, .int .i64 ((K0 : Int) + 1)] W fun e w' => e = .returned (.int .i64 ((K0 + 1 + cnEt x.fTree : Nat) : Int)) ∧ Rel lo hi W w') := fun W h => by
    have := markEt_any lo hi a1 c1 x.fTree (K0 + 1) W (s1.shp h.2.2.2) (by omega) (by have h9 := HCB.out;  unfold cn1Pe at h9; omega)
    rwa [show ((K0 + 1 : Nat) : Int) = (K0 : Int) + 1 by omega] at this
   obtain ⟨v1, g1, l1, f1⟩ := cell_shp HB0.out.2.2.2 HBK.out p1
   rw [l1.1 rfl] at g1
   obtain ⟨z1, hz1⟩ : ∃ z, x.fTree.length = z := ⟨_, rfl⟩
   obtain ⟨K2, hK2⟩ : ∃ z : Nat, K0 + 1 + cnEt x.fTree = z := ⟨_, rfl⟩
   have HK2 := Lib.hid hK2
   have hKb2 : K2 ≤ 100000000 ∧ 0 < K2 := ⟨by have h9 := HCB.out;  unfold cn1Pe at h9; omega, by omega⟩
   rw [hK2, hz1] at HM1
   rw [hz1] at g1
   clear hK2 hz1 l1 s1 p1
   go_wp2_with (go_at_call 15; refine (HM1.out _ HR0_1.out).mono ?_; rintro e w1 ⟨rfl, hb1⟩; refine Hid.out ?_)
   refine Lib.hid ?_
   have HB1 : Hid (Rel lo hi w w1) := HR0_1.out.trans hb1
   clear hb1 HM1 g1 f1 g0_1 f0_1
   have HM2 : Hid (∀ W, Calls Tryz.prog 39 #[.int .i64 ((K2 : Int))] W fun e w' => e = .returned (.string (sr.mark (K2 + 0))) ∧ Below W.heap.size W w') := fun W => by
    have := sr.mark_any (K2 + 0) (by omega) (by omega) W
    rwa [show ((K2 + 0 : Nat) : Int) = (K2 : Int) by omega] at this
   generalize sr.mark (K2 + 0) = s2 at *
   go_wp2_with (go_at_call 39; refine (HM2.out _).mono ?_; rintro e w2 ⟨rfl, hb2⟩; refine Hid.out ?_)
   refine Lib.hid ?_
   have HB2 : Hid (Rel lo hi w w2) := HB1.out.below hb2
   clear hb2 HM2 
   obtain ⟨u2_3, x2_3, y2_3⟩ := (HC.out i x HX.out).2.1
   obtain ⟨v2_3, g2_3, l2_3, f2_3⟩ := cell_shp HB2.out.2.2.2 HBK.out x2_3
   have HZ2_3 : Hid (isSl v2_3 = false) := l2_3.2 y2_3
   clear y2_3 l2_3
   have HR2_3 : Hid (Rel lo hi w (w2.setCell ⟨b, o + i * 3 + 2, none⟩ (.string s2))) := by
    obtain ⟨v9, g9, l9, f9⟩ := cell_shp HB2.out.2.2.2 HBK.out x2_3
    obtain ⟨_, _, y9⟩ := (HC.out i x HX.out).2.1
    exact HB2.out.set hl hh g9 (l9.2 (by obtain ⟨u9, x9, y9⟩ := (HC.out i x HX.out).2.1; rw [x2_3] at x9; cases x9; exact y9)) rfl
   go_wp2
   go_roundw
   case rel => exact ⟨i + 1, by omega, by go_num, by (rw [HSU.out]; unfold cn1Pe; have := HK2.out; have := HKK.out; go_num) , HR2_3.out⟩
   case measure => simp [intOf]; omega
  ·have h' : ¬ (i : Int) < (n : Int) := by omega
   obtain rfl : i = n := by omega
   have HE : Hid (cnkPe l i = cnPe l) := by show _ = _; unfold cnPe; rw [HN.out]
   rw [HE.out]
   go_wp2
   go_ret
   exact ⟨rfl, HRL.out⟩
def MNx (lo hi : Nat) (w : World) (a : Option Addr) (l : List Nx) : Prop := ∃ b o, a = some ⟨b, o, none⟩ ∧ lo ≤ b ∧ b < hi ∧ (∃ cs t, w.heap[b]? = some (.cells cs t (0, 0))) ∧ ∀ (i : Nat) (x : Nx), l[i]? = some x → (∃ v, w.cell? ⟨b, o + i * 2, none⟩ = some v ∧ isSl v = false) ∧ (∃ v, w.cell? ⟨b, o + i * 2 + 1, none⟩ = some v ∧ isSl v = false)
def cn1Nx (x : Nx) : Nat := 2
def cnkNx (l : List Nx) (k : Nat) : Nat := ((l.take k).map cn1Nx).sum
def cnNx (l : List Nx) : Nat := cnkNx l l.length
theorem cnkNx_succ {l : List Nx} {k : Nat} {x : Nx} (h : l[k]? = some x) : cnkNx l (k + 1) = cnkNx l k + cn1Nx x := by
 unfold cnkNx
 rw [List.take_add_one, h]
 simp
theorem cnkNx_le (l : List Nx) (k : Nat) : cnkNx l k ≤ cnNx l := by
 unfold cnNx cnkNx
 rw [List.take_length]
 have : ((l.take k).map cn1Nx).sum + ((l.drop k).map cn1Nx).sum = (l.map cn1Nx).sum := by rw [← List.sum_append_nat, ← List.map_append, List.take_append_drop]
 omega
theorem cnNx_len (l : List Nx) : l.length ≤ cnNx l := by
 unfold cnNx cnkNx
 rw [List.take_length]
 induction l with
 | nil => simp
 | cons y l ih =>
  rw [List.map_cons, List.sum_cons, List.length_cons]
  have : 1 ≤ cn1Nx y := by unfold cn1Nx; omega
  omega
theorem cnNx_le (l : List Nx) : cnNx l ≤ 8 * wtNx l := by
 have h1 : ∀ x : Nx, cn1Nx x ≤ 8 * (1 + wt1Nx x) := fun x => by unfold cn1Nx wt1Nx;  omega
 unfold cnNx cnkNx wtNx wtkNx
 rw [List.take_length]
 induction l with
 | nil => simp
 | cons y l ih =>
  rw [List.map_cons, List.map_cons, List.sum_cons, List.sum_cons, List.length_cons]
  have := h1 y
  omega
theorem MNx.shp {lo hi : Nat} {w w' : World} {a : Option Addr} {l : List Nx} (h : MNx lo hi w a l) (k : Shp w w') : MNx lo hi w' a l := by
 obtain ⟨b, o, e, hA, hA2, hB, hX⟩ := h
 refine ⟨b, o, e, hA, hA2, blk_shp k hB, fun i x hx => ?_⟩
 obtain ⟨h0, h1⟩ := hX i x hx
 exact ⟨(by obtain ⟨v, g1, g2⟩ := h0; obtain ⟨v', k1, k2, _⟩ := cell_shp k hB g1; exact ⟨v', k1, k2.2 g2⟩), (by obtain ⟨v, g1, g2⟩ := h1; obtain ⟨v', k1, k2, _⟩ := cell_shp k hB g1; exact ⟨v', k1, k2.2 g2⟩)⟩
theorem MNx.src {lo : Nat} {w : World} {a : Option Addr} {l : List Nx} (h : SrcNx (some lo) w a l) : MNx lo w.heap.size w a l := by
 rcases h with ⟨h, _⟩ | ⟨b, o, e, h1, h2⟩
 ·cases h
 ·obtain ⟨g1, cs, t, g2⟩ := h1 lo rfl
  refine ⟨b, o, e, g1, (Array.getElem?_eq_some_iff.1 g2).1, ⟨cs, t, g2⟩, fun i x hx => ?_⟩
  obtain ⟨q0, q1⟩ := h2 i x hx
  exact ⟨⟨_, q0, rfl⟩, ⟨_, q1, rfl⟩⟩
theorem markNx_any (lo hi : Nat) (a : Option Addr) (c : Nat) (l : List Nx) (k0 : Nat) (w : World) (hM : MNx lo hi w a l) (h0 : 0 < k0) (hk : k0 + cnNx l ≤ 100000000) :
  Calls Tryz.prog 38 #[.slice a l.length c, .int .i64 (k0 : Int)] w fun e w' => e = .returned (.int .i64 ((k0 + cnNx l : Nat) : Int)) ∧ Rel lo hi w w' := by
 obtain ⟨b, o, rfl, hl, hh, hbk, hc⟩ := hM
 have HBK := Lib.hid hbk
 have HC := Lib.hid hc
 have HCL := Lib.hid (cnkNx_le l)
 have HKL : Hid (k0 + cnNx l ≤ 100000000) := hk
 clear hbk hc hk
 obtain ⟨n, hn⟩ : ∃ n, l.length = n := ⟨_, rfl⟩
 have HN : Hid (l.length = n) := hn
 have hn9 : n ≤ 100000000 := by have h1 := cnNx_len l; have h2 := HKL.out; omega
 rw [hn]
 clear hn
 go_enter Tryz.func38, Tryz.ntmps38
 go_wp2
 go_loopw [1, 5] (fun a x wr => ∃ (i : Nat), i ≤ n ∧ x = .int .i64 (i : Int) ∧ a = .int .i64 ((k0 + cnkNx l i : Nat) : Int) ∧ Rel lo hi w wr) (fun _ x _ => n - (intOf x).toNat)
 case atStart => exact ⟨0, Nat.zero_le _, rfl, by simp [cnkNx], Rel.refl _ _ _⟩
 case round =>
  obtain ⟨i, hi', rfl, rfl, hrl⟩ := hrel
  have HRL : Hid (Rel lo hi w wr) := hrl
  clear hrl
  by_cases h : i < n
  ·have h' : (i : Int) < (n : Int) := by omega
   have hi0 : (0 : Int) ≤ (i : Int) := by omega
   obtain ⟨x, hx⟩ : ∃ x, l[i]? = some x := ⟨_, List.getElem?_eq_getElem (by rw [HN.out]; exact h)⟩
   have HX : Hid (l[i]? = some x) := hx
   have HSU := Lib.hid (cnkNx_succ hx)
   obtain ⟨K0, hK0⟩ : ∃ K : Nat, k0 + cnkNx l i = K := ⟨_, rfl⟩
   have HKK : Hid (k0 + cnkNx l i = K0) := hK0
   have HCB : Hid (K0 + cn1Nx x ≤ 100000000) := by
    show _ ≤ _
    have h1 := HCL.out (i + 1)
    have h2 := HKL.out
    have h3 := HSU.out
    omega
   have hK0b : K0 ≤ 100000000 := by have := HCB.out; omega
   have hK0c : K0 + 2 ≤ 100000000 := by have h9 := HCB.out; unfold cn1Nx at h9; omega
   have hK0p : 0 < K0 := by omega
   rw [hK0]
   clear hK0 hx
   have HM0 : Hid (∀ W, Calls Tryz.prog 39 #[.int .i64 ((K0 : Int))] W fun e w' => e = .returned (.string (sr.mark (K0 + 0))) ∧ Below W.heap.size W w') := fun W => by
    have := sr.mark_any (K0 + 0) (by omega) (by omega) W
    rwa [show ((K0 + 0 : Nat) : Int) = (K0 : Int) by omega] at this
   generalize sr.mark (K0 + 0) = s0 at *
   go_wp2_with (go_at_call 39; refine (HM0.out _).mono ?_; rintro e w0 ⟨rfl, hb0⟩; refine Hid.out ?_)
   refine Lib.hid ?_
   have HB0 : Hid (Rel lo hi w w0) := HRL.out.below hb0
   clear hb0 HM0 
   obtain ⟨u0_1, x0_1, y0_1⟩ := (HC.out i x HX.out).1
   obtain ⟨v0_1, g0_1, l0_1, f0_1⟩ := cell_shp HB0.out.2.2.2 HBK.out x0_1
   have HZ0_1 : Hid (isSl v0_1 = false) := l0_1.2 y0_1
   clear y0_1 l0_1
   have HR0_1 : Hid (Rel lo hi w (w0.setCell ⟨b, o + i * 2, none⟩ (.string s0))) := by
    obtain ⟨v9, g9, l9, f9⟩ := cell_shp HB0.out.2.2.2 HBK.out x0_1
    obtain ⟨_, _, y9⟩ := (HC.out i x HX.out).1
    exact HB0.out.set hl hh g9 (l9.2 (by obtain ⟨u9, x9, y9⟩ := (HC.out i x HX.out).1; rw [x0_1] at x9; cases x9; exact y9)) rfl
   have HM1 : Hid (∀ W, Calls Tryz.prog 39 #[.int .i64 ((K0 : Int) + 1)] W fun e w' => e = .returned (.string (sr.mark (K0 + 1))) ∧ Below W.heap.size W w') := fun W => by
    have := sr.mark_any (K0 + 1) (by omega) (by omega) W
    rwa [show ((K0 + 1 : Nat) : Int) = (K0 : Int) + 1 by omega] at this
   generalize sr.mark (K0 + 1) = s1 at *
   go_wp2_with (go_at_call 39; refine (HM1.out _).mono ?_; rintro e w1 ⟨rfl, hb1⟩; refine Hid.out ?_)
   refine Lib.hid ?_
   have HB1 : Hid (Rel lo hi w w1) := HR0_1.out.below hb1
   clear hb1 HM1 g0_1 f0_1
   obtain ⟨u1_2, x1_2, y1_2⟩ := (HC.out i x HX.out).2
   obtain ⟨v1_2, g1_2, l1_2, f1_2⟩ := cell_shp HB1.out.2.2.2 HBK.out x1_2
   have HZ1_2 : Hid (isSl v1_2 = false) := l1_2.2 y1_2
   clear y1_2 l1_2
   have HR1_2 : Hid (Rel lo hi w (w1.setCell ⟨b, o + i * 2 + 1, none⟩ (.string s1))) := by
    obtain ⟨v9, g9, l9, f9⟩ := cell_shp HB1.out.2.2.2 HBK.out x1_2
    obtain ⟨_, _, y9⟩ := (HC.out i x HX.out).2
    exact HB1.out.set hl hh g9 (l9.2 (by obtain ⟨u9, x9, y9⟩ := (HC.out i x HX.out).2; rw [x1_2] at x9; cases x9; exact y9)) rfl
   go_wp2
   go_roundw
   case rel => exact ⟨i + 1, by omega, by go_num, by (rw [HSU.out]; unfold cn1Nx;  have := HKK.out; go_num) , HR1_2.out⟩
   case measure => simp [intOf]; omega
  ·have h' : ¬ (i : Int) < (n : Int) := by omega
   obtain rfl : i = n := by omega
   have HE : Hid (cnkNx l i = cnNx l) := by show _ = _; unfold cnNx; rw [HN.out]
   rw [HE.out]
   go_wp2
   go_ret
   exact ⟨rfl, HRL.out⟩
end Go.Proofs.YthbgpfjbfkiljaaGreatDoor.ty
