import Derived.Test.YtjbdklkingfmpaaGreatDoorYDr
import Derived.Deep.RegionHeld3
set_option linter.unusedVariables false
set_option linter.unusedSimpArgs false
set_option maxRecDepth 100000
set_option maxHeartbeats 16000000
namespace Go.Proofs.YtjbdklkingfmpaaGreatDoor.ty
open Go.ChangeShapes Go.WideShapes Go.ChangeAt Go.RowKit Go.Deep
def Md (lo hi : Nat) (w w' : World) : Prop := (w'.os = w.os ∧ w'.tape = w.tape ∧ w'.output = w.output) ∧ w.heap.size ≤ w'.heap.size ∧ ∀ j, j < w.heap.size → (j < lo ∨ hi ≤ j) → w'.heap[j]? = w.heap[j]?
theorem Md.refl (lo hi : Nat) (w : World) : Md lo hi w w := ⟨⟨rfl, rfl, rfl⟩, Nat.le_refl _, fun _ _ _ => rfl⟩
theorem Md.trans {lo hi : Nat} {A B C : World} (h : Md lo hi A B) (k : Md lo hi B C) : Md lo hi A C := ⟨⟨k.1.1.trans h.1.1, k.1.2.1.trans h.1.2.1, k.1.2.2.trans h.1.2.2⟩, Nat.le_trans h.2.1 k.2.1, fun j hj e => (k.2.2 j (Nat.lt_of_lt_of_le hj h.2.1) e).trans (h.2.2 j hj e)⟩
theorem Md.of_below {lo hi : Nat} {A B : World} (k : Below A.heap.size A B) : Md lo hi A B := ⟨⟨k.os, k.tape, k.output⟩, k.size, fun j hj _ => k.block j hj⟩
theorem Md.below {lo hi : Nat} {A B C : World} (h : Md lo hi A B) (k : Below B.heap.size B C) : Md lo hi A C := h.trans (.of_below k)
theorem Md.set {lo hi : Nat} {A B : World} (h : Md lo hi A B) {b p : Nat} (x : Value) (hl : lo ≤ b) (hh : b < hi) : Md lo hi A (B.setCell ⟨b, p, none⟩ x) :=
 h.trans ⟨⟨rfl, rfl, rfl⟩, by simp, fun j hj e => by simp only [World.setCell]; rw [Array.getElem?_modify, if_neg (by omega)]⟩
theorem Md.wide {lo hi lo' hi' : Nat} {A B : World} (h : Md lo hi A B) (h1 : lo' ≤ lo) (h2 : hi ≤ hi') : Md lo' hi' A B := ⟨h.1, h.2.1, fun j hj e => h.2.2 j hj (by omega)⟩
theorem Md.toBelow {lo hi B : Nat} {w w' : World} (h : Md lo hi w w') (hB : B ≤ lo) (hs : B ≤ w.heap.size) : Below B w w' := ⟨h.1.1, h.1.2.1, h.1.2.2, h.2.1, fun j hj => h.2.2 j (by omega) (.inl (by omega))⟩
def Fr (b s e : Nat) (w w' : World) : Prop := (w'.os = w.os ∧ w'.tape = w.tape ∧ w'.output = w.output) ∧ w.heap.size ≤ w'.heap.size ∧ ∀ j, j < w.heap.size → j ≠ b → (j < s ∨ e ≤ j) → w'.heap[j]? = w.heap[j]?
theorem Fr.refl (b s e : Nat) (w : World) : Fr b s e w w := ⟨⟨rfl, rfl, rfl⟩, Nat.le_refl _, fun _ _ _ _ => rfl⟩
theorem Fr.trans {b s e : Nat} {A B C : World} (h : Fr b s e A B) (k : Fr b s e B C) : Fr b s e A C := ⟨⟨k.1.1.trans h.1.1, k.1.2.1.trans h.1.2.1, k.1.2.2.trans h.1.2.2⟩, Nat.le_trans h.2.1 k.2.1, fun j hj e1 e2 => (k.2.2 j (Nat.lt_of_lt_of_le hj h.2.1) e1 e2).trans (h.2.2 j hj e1 e2)⟩
theorem Fr.below {b s e : Nat} {A B C : World} (h : Fr b s e A B) (k : Below B.heap.size B C) : Fr b s e A C := h.trans ⟨⟨k.os, k.tape, k.output⟩, k.size, fun j hj _ _ => k.block j hj⟩
theorem Fr.set {b s e : Nat} {A B : World} (h : Fr b s e A B) (p : Nat) (x : Value) : Fr b s e A (B.setCell ⟨b, p, none⟩ x) :=
 h.trans ⟨⟨rfl, rfl, rfl⟩, by simp, fun j hj e _ => by simp only [World.setCell]; rw [Array.getElem?_modify, if_neg (fun h => e h.symm)]⟩
theorem Fr.md {b s e s' e' : Nat} {A B C : World} (h : Fr b s e A B) (k : Md s' e' B C) (h1 : s ≤ s') (h2 : e' ≤ e) : Fr b s e A C := h.trans ⟨k.1, k.2.1, fun j hj _ e => k.2.2 j hj (by omega)⟩
theorem Fr.to {b s e lo hi : Nat} {A B : World} (h : Fr b s e A B) (h1 : lo ≤ b) (h2 : b < hi) (h3 : lo ≤ s) (h4 : e ≤ hi) : Md lo hi A B := ⟨h.1, h.2.1, fun j hj e => h.2.2 j hj (by omega) (by omega)⟩
theorem sb {W : World} {b p q : Nat} {v : Value} (h : q ≠ b) : (W.setCell ⟨b, p, none⟩ v).heap[q]? = W.heap[q]? := by simp only [World.setCell]; rw [Array.getElem?_modify, if_neg (fun e => h e.symm)]
theorem kp_below {b s e : Nat} {cur X w' : World} (hX : ∀ p, p ≠ b → X.heap[p]? = cur.heap[p]?) (hz : cur.heap.size ≤ X.heap.size) (hb : Below X.heap.size X w') (he : e ≤ cur.heap.size) (hbs : b < s ∨ e ≤ b) : ∀ p, s ≤ p → p < e → w'.heap[p]? = cur.heap[p]? :=
 fun p h1 h2 => (hb.block p (by omega)).trans (hX p (by omega))
theorem kp_md {b s e s' e' : Nat} {cur X w' : World} (hX : ∀ p, p ≠ b → X.heap[p]? = cur.heap[p]?) (hz : cur.heap.size ≤ X.heap.size) (hb : Md s' e' X w') (he : e ≤ cur.heap.size) (hbs : b < s ∨ e ≤ b) (hd : e ≤ s' ∨ e' ≤ s) : ∀ p, s ≤ p → p < e → w'.heap[p]? = cur.heap[p]? :=
 fun p h1 h2 => (hb.2.2 p (by omega) (by omega)).trans (hX p (by omega))
def up (f : Nat → Value) (p : Nat) (v : Value) : Nat → Value := fun j => if j = p then v else f j
theorem up_same (f : Nat → Value) (p : Nat) (v : Value) : up f p v p = v := by unfold up; rw [if_pos rfl]
theorem up_at {f : Nat → Value} {p q : Nat} {v : Value} (h : q = p) : up f p v q = v := by subst h; exact up_same _ _ _
theorem up_oth {f : Nat → Value} {p q : Nat} {v : Value} (h : q ≠ p) : up f p v q = f q := by unfold up; rw [if_neg h]
theorem row_up {w : World} {b t N : Nat} {f : Nat → Value} (h : w.rowIs b t N f) (p : Nat) (v : Value) : (w.setCell ⟨b, p, none⟩ v).rowIs b t N (up f p v) := h.set p v
def GS (lo hi : Nat) (w : World) (a : Option Addr) (l : List ByteArray) : Prop := ∃ b o t N f, a = some ⟨b, o, none⟩ ∧ lo ≤ b ∧ b < hi ∧ w.rowIs b t N f ∧ o + l.length ≤ N ∧ ∀ (i : Nat) (x : ByteArray), l[i]? = some x → f (o + i) = .string x
theorem GS.kept {lo hi : Nat} {w w' : World} {a : Option Addr} {l : List ByteArray} (h : GS lo hi w a l) (hk : ∀ p, lo ≤ p → p < hi → w'.heap[p]? = w.heap[p]?) : GS lo hi w' a l := by
 obtain ⟨b, o, t, N, f, e, h1, h2, h3, h4⟩ := h
 exact ⟨b, o, t, N, f, e, h1, h2, h3.of_block (hk b h1 h2), h4⟩
theorem GS.src {lo hi : Nat} {w : World} {a : Option Addr} {l : List ByteArray} (h : GS lo hi w a l) : SrcS none w a l := by
 obtain ⟨b, o, t, N, f, e, h1, h2, h3, h4, h5⟩ := h
 refine .inr ⟨b, o, e, Okb.free _ _, fun i x hx => ?_⟩
 rw [h3.cell (i := o + i) (by have := (List.getElem?_eq_some_iff.1 hx).1; omega), h5 i x hx]
def mkS (k : Nat) (l : List ByteArray) : List ByteArray := l.mapIdx fun i _ => sr.mark (k + i)
theorem mkS_len (k : Nat) (l : List ByteArray) : (mkS k l).length = l.length := by simp [mkS]
theorem mkS_at {k : Nat} {l : List ByteArray} {i : Nat} {x : ByteArray} (h : l[i]? = some x) : (mkS k l)[i]? = some (sr.mark (k + i)) := by simp [mkS, h]
theorem mkS_of {k : Nat} {l : List ByteArray} {i : Nat} {y : ByteArray} (h : (mkS k l)[i]? = some y) : ∃ x, l[i]? = some x ∧ y = sr.mark (k + i) := by
 have hi := (List.getElem?_eq_some_iff.1 h).1
 rw [mkS_len] at hi
 have hx := List.getElem?_eq_getElem hi
 rw [mkS_at hx] at h
 exact ⟨_, hx, (Option.some.inj h).symm⟩
theorem markGS_any (lo hi : Nat) (a : Option Addr) (c : Nat) (l : List ByteArray) (k0 : Nat) (w : World) (hG : GS lo hi w a l) (hhi : hi ≤ w.heap.size) (h0 : 0 < k0) (hk : k0 + cnS l ≤ 100000000) :
  Calls Tryz.prog 12 #[.slice a l.length c, .int .i64 (k0 : Int)] w fun e w' => e = .returned (.int .i64 ((k0 + cnS l : Nat) : Int)) ∧ GS lo hi w' a (mkS k0 l) ∧ Md lo hi w w' := by
 obtain ⟨b, o, t, N, f0, rfl, hl, hh, hrow, hN, hv⟩ := hG
 have HV := Lib.hid hv
 have HR0 : Hid (w.rowIs b t N f0) := hrow
 unfold cnS at hk ⊢
 obtain ⟨n, hn⟩ : ∃ n, l.length = n := ⟨_, rfl⟩
 have HNN : Hid (l.length = n) := hn
 rw [hn] at hk hN ⊢
 clear hrow hv hn
 go_enter Tryz.func12, Tryz.ntmps12
 go_wp2
 go_loopw [1, 5] (fun a x wr => ∃ (i : Nat) (f : Nat → Value), i ≤ n ∧ x = .int .i64 (i : Int) ∧ a = .int .i64 ((k0 + i : Nat) : Int) ∧ wr.rowIs b t N f ∧ (∀ j, j < i → f (o + j) = .string (sr.mark (k0 + j))) ∧ Md lo hi w wr) (fun _ x _ => n - (intOf x).toNat)
 case atStart => exact ⟨0, f0, Nat.zero_le _, rfl, rfl, HR0.out, fun j h => by omega, Md.refl _ _ _⟩
 case round =>
  obtain ⟨i, f, hi', rfl, rfl, hrow, hval, hmd⟩ := hrel
  have HRW : Hid (wr.rowIs b t N f) := hrow
  have HVL := Lib.hid hval
  have HMD : Hid (Md lo hi w wr) := hmd
  clear hrow hval hmd
  by_cases h : i < n
  ·have h' : (i : Int) < (n : Int) := by omega
   obtain ⟨K, hK⟩ : ∃ K : Nat, k0 + i = K := ⟨_, rfl⟩
   have HKK : Hid (k0 + i = K) := hK
   have HMT := Lib.hid fun (W : World) => sr.mark_any K (by omega) (by omega) W
   rw [hK]
   have hKb : K ≤ 100000000 := by omega
   obtain ⟨s, hs⟩ : ∃ s, sr.mark K = s := ⟨_, rfl⟩
   have HSS : Hid (sr.mark K = s) := hs
   rw [hs] at HMT
   clear hK hs
   go_wp2_with (go_at_call 40; refine (HMT.out _).mono ?_; rintro e w1 ⟨rfl, hb1⟩; refine Hid.out ?_)
   refine Lib.hid ?_
   have HR1 : Hid (w1.rowIs b t N f) := HRW.out.of_block (hb1.block b HRW.out.lt)
   have HM1 : Hid (Md lo hi w w1) := HMD.out.below hb1
   have g1 := HR1.out.cell (i := o + i) (by omega)
   have f1 := HR1.out.frozen (o + i)
   have HR2 : Hid ((w1.setCell ⟨b, o + i, none⟩ (.string s)).rowIs b t N (up f (o + i) (.string s))) := row_up HR1.out _ _
   have HM2 : Hid (Md lo hi w (w1.setCell ⟨b, o + i, none⟩ (.string s))) := HM1.out.set _ hl hh
   have HV2 : Hid (∀ j, j < i + 1 → up f (o + i) (.string s) (o + j) = .string (sr.mark (k0 + j))) := fun j hj => by
    by_cases e : j = i
    ·subst e
     rw [up_same, HKK.out, HSS.out]
    ·rw [up_oth (by omega)]
     exact HVL.out j (by omega)
   clear hb1
   go_wp2
   go_roundw
   case rel => exact ⟨i + 1, _, by omega, by go_num, by rw [← Nat.add_assoc, HKK.out]; go_num, HR2.out, HV2.out, HM2.out⟩
   case measure => simp [intOf]; omega
  ·have h' : ¬ (i : Int) < (n : Int) := by omega
   obtain rfl : i = n := by omega
   have HE : Hid (GS lo hi wr (some ⟨b, o, none⟩) (mkS k0 l)) := ⟨b, o, t, N, f, rfl, hl, hh, HRW.out, by rw [mkS_len, HNN.out]; exact hN, fun j y hy => by
    obtain ⟨x, hx, rfl⟩ := mkS_of hy
    exact HVL.out j (by have := (List.getElem?_eq_some_iff.1 hx).1; have := HNN.out; omega)⟩
   go_wp2
   go_ret
   exact ⟨rfl, HE.out, HMD.out⟩
theorem heldS_any (a : Option Addr) (c : Nat) (l : List ByteArray) (k0 : Nat) (w : World) (hR : SrcS none w a (mkS k0 l)) (h0 : 0 < k0) (hk : k0 + cnS l ≤ 100000000) :
  Calls Tryz.prog 13 #[.slice a l.length c, .int .i64 (k0 : Int)] w fun e w' => e = .returned (.int .i64 ((k0 + cnS l : Nat) : Int)) ∧ Below w.heap.size w w' := by
 have HER : Hid (SrcS none w a (mkS k0 l)) := hR
 unfold cnS at hk ⊢
 obtain ⟨n, hn⟩ : ∃ n, l.length = n := ⟨_, rfl⟩
 have HNN : Hid (l.length = n) := hn
 rw [hn] at hk ⊢
 clear hR hn
 go_enter Tryz.func13, Tryz.ntmps13
 go_wp2
 go_loopw [1, 5] (fun v x wr => ∃ (i : Nat), i ≤ n ∧ x = .int .i64 (i : Int) ∧ v = .int .i64 ((k0 + i : Nat) : Int) ∧ Below w.heap.size w wr) (fun _ x _ => n - (intOf x).toNat)
 case atStart => exact ⟨0, Nat.zero_le _, rfl, rfl, Below.refl _ _⟩
 case round =>
  obtain ⟨i, hi, rfl, rfl, hbel⟩ := hrel
  by_cases h : i < n
  ·have h' : (i : Int) < (n : Int) := by omega
   have HBB : Hid (Below w.heap.size w wr) := hbel
   obtain ⟨x, hx⟩ : ∃ x, l[i]? = some x := ⟨_, List.getElem?_eq_getElem (by rw [HNN.out]; exact h)⟩
   rcases HER.out with he | ⟨b, o, rfl, _, hc⟩
   ·have := congrArg List.length he.2; rw [mkS_len, HNN.out] at this; simp at this; omega
   have hcl := hc i _ (mkS_at hx)
   obtain ⟨K, hK⟩ : ∃ K : Nat, k0 + i = K := ⟨_, rfl⟩
   rw [hK] at hcl
   have HKK : Hid (k0 + i = K) := hK
   rw [hK]
   have hKb : K ≤ 100000000 := by omega
   have hK0 : 0 < K := by omega
   have HM1 := Lib.hid fun (W : World) => sr.mark_any K hK0 (by omega) W
   obtain ⟨s, hs⟩ : ∃ s, sr.mark K = s := ⟨_, rfl⟩
   rw [hs] at HM1 hcl
   have HCd : Hid (∀ W, Below w.heap.size w W → W.cell? ⟨b, o + i, none⟩ = some (.string s)) := fun W hW => (hW.cell (p := ⟨b, o + i, none⟩) (World.block_lt_of_cell? _ _ hcl)).trans hcl
   clear hs hK hcl hc hx hbel
   have d1 := HCd.out wr HBB.out
   go_wp2_with fail
   go_region_held3 (fun w' => w'.cell? ⟨b, o + i, none⟩ = some (.string s))
    (first
     | go_keep
     | exact HCd.out _ (HBB.out.drew.trans (hb1.mono HBB.out.size)))
    (first | ((go_at_call 40; refine (HM1.out _).mono ?_; rintro e w1 ⟨rfl, hb1⟩)))
   have HB1 : Hid (Below w.heap.size w w1) := HBB.out.drew.trans (hb1.mono HBB.out.size)
   clear hb1 d1
   go_wp2_with fail
   go_roundw
   case rel => exact ⟨i + 1, by omega, by go_num, by rw [← Nat.add_assoc, HKK.out]; go_num, HB1.out⟩
   case measure => simp [intOf]; omega
  ·have h' : ¬ (i : Int) < (n : Int) := by omega
   obtain rfl : i = n := by omega
   go_wp2
   go_ret
   exact ⟨rfl, hbel⟩
def mk1Et (k : Nat) (x : Et) : Et := ⟨sr.mark (k), ((k + 1 : Nat) : Int), sr.mark (k + 2), decide (((k + 3 : Nat) : Int) % 3 = 0)⟩
def mkEt (k : Nat) (l : List Et) : List Et := l.mapIdx fun i x => mk1Et (k + cnkEt l i) x
theorem mkEt_len (k : Nat) (l : List Et) : (mkEt k l).length = l.length := by simp [mkEt]
theorem mkEt_at {k : Nat} {l : List Et} {i : Nat} {x : Et} (h : l[i]? = some x) : (mkEt k l)[i]? = some (mk1Et (k + cnkEt l i) x) := by simp [mkEt, h]
theorem mkEt_of {k : Nat} {l : List Et} {i : Nat} {y : Et} (h : (mkEt k l)[i]? = some y) : ∃ x, l[i]? = some x ∧ y = mk1Et (k + cnkEt l i) x := by
 have hi := (List.getElem?_eq_some_iff.1 h).1
 rw [mkEt_len] at hi
 have hx := List.getElem?_eq_getElem hi
 rw [mkEt_at hx] at h
 exact ⟨_, hx, (Option.some.inj h).symm⟩
def E1Et (lo hi : Nat) (w : World) (g : Nat → Value) (x : Et) : Prop := g 0 = .string x.fPath ∧ g 1 = .int .i64 x.fKind ∧ g 2 = .string x.fData ∧ g 3 = .bool x.fExec
theorem E1Et.kept {lo hi : Nat} {w w' : World} {g g' : Nat → Value} {x : Et} (h : E1Et lo hi w g x) (hg : ∀ r, r < 4 → g' r = g r) (hk : ∀ p, lo ≤ p → p < hi → w'.heap[p]? = w.heap[p]?) : E1Et lo hi w' g' x := by
 obtain ⟨q0, q1, q2, q3⟩ := h
 exact ⟨(hg 0 (by omega)).trans q0, (hg 1 (by omega)).trans q1, (hg 2 (by omega)).trans q2, (hg 3 (by omega)).trans q3⟩
def GEt (lo hi : Nat) (w : World) (a : Option Addr) (l : List Et) : Prop := ∃ b o t N f, ∃ s e : Nat → Nat, a = some ⟨b, o, none⟩ ∧ lo ≤ b ∧ b < hi ∧ w.rowIs b t N f ∧ o + l.length * 4 ≤ N ∧ (∀ (i : Nat) (x : Et), l[i]? = some x → lo ≤ s i ∧ e i ≤ hi ∧ (b < s i ∨ e i ≤ b) ∧ E1Et (s i) (e i) w (fun r => f (o + i * 4 + r)) x) ∧ (∀ i j, i < j → j < l.length → e i ≤ s j ∨ e j ≤ s i)
theorem GEt.kept {lo hi : Nat} {w w' : World} {a : Option Addr} {l : List Et} (h : GEt lo hi w a l) (hk : ∀ p, lo ≤ p → p < hi → w'.heap[p]? = w.heap[p]?) : GEt lo hi w' a l := by
 obtain ⟨b, o, t, N, f, s, e, h0, h1, h2, h3, h4, h5, h6⟩ := h
 exact ⟨b, o, t, N, f, s, e, h0, h1, h2, h3.of_block (hk b h1 h2), h4, fun i x hx => by
  obtain ⟨k1, k2, k3, k4⟩ := h5 i x hx
  exact ⟨k1, k2, k3, k4.kept (fun _ _ => rfl) fun p g1 g2 => hk p (by omega) (by omega)⟩, h6⟩
theorem GEt.src {lo hi : Nat} {w : World} {a : Option Addr} {l : List Et} (h : GEt lo hi w a l) : SrcEt none w a l := by
 obtain ⟨b, o, t, N, f, s, e, h0, h1, h2, h3, h4, h5, h6⟩ := h
 refine .inr ⟨b, o, h0, Okb.free _ _, fun i x hx => ?_⟩
 have hi := (List.getElem?_eq_some_iff.1 hx).1
 obtain ⟨k1, k2, k3, k4⟩ := h5 i x hx
 obtain ⟨q0, q1, q2, q3⟩ := k4
 exact ⟨(h3.cell (i := o + i * 4) (by omega)).trans (congrArg some q0), (h3.cell (i := o + i * 4 + 1) (by omega)).trans (congrArg some q1), (h3.cell (i := o + i * 4 + 2) (by omega)).trans (congrArg some q2), (h3.cell (i := o + i * 4 + 3) (by omega)).trans (congrArg some q3)⟩
theorem markGEt_any (lo hi : Nat) (a : Option Addr) (c : Nat) (l : List Et) (k0 : Nat) (w : World) (hG : GEt lo hi w a l) (hhi : hi ≤ w.heap.size) (h0 : 0 < k0) (hk : k0 + cnEt l ≤ 100000000) :
  Calls Tryz.prog 80 #[.slice a l.length c, .int .i64 (k0 : Int)] w fun e w' => e = .returned (.int .i64 ((k0 + cnEt l : Nat) : Int)) ∧ GEt lo hi w' a (mkEt k0 l) ∧ Md lo hi w w' := by
 obtain ⟨b, o, t, N, f0, s, e, rfl, hl, hh, hrow, hN, hel, hdis⟩ := hG
 have HRZ : Hid (w.rowIs b t N f0) := hrow
 have HEZ := Lib.hid hel
 have HDI := Lib.hid hdis
 have HCL := Lib.hid (cnkEt_le l)
 have HKL : Hid (k0 + cnEt l ≤ 100000000) := hk
 clear hrow hel hdis hk
 obtain ⟨n, hn⟩ : ∃ n, l.length = n := ⟨_, rfl⟩
 have HN : Hid (l.length = n) := hn
 have hn9 : n ≤ 100000000 := by have h1 := cnEt_len l; have h2 := HKL.out; omega
 rw [hn] at hN ⊢
 clear hn
 go_enter Tryz.func80, Tryz.ntmps80
 go_wp2
 go_loopw [1, 5] (fun a x wr => ∃ (i : Nat) (f : Nat → Value), i ≤ n ∧ x = .int .i64 (i : Int) ∧ a = .int .i64 ((k0 + cnkEt l i : Nat) : Int) ∧ wr.rowIs b t N f ∧ (∀ (j : Nat) (y : Et), l[j]? = some y → E1Et (s j) (e j) wr (fun r => f (o + j * 4 + r)) (if j < i then mk1Et (k0 + cnkEt l j) y else y)) ∧ Md lo hi w wr) (fun _ x _ => n - (intOf x).toNat)
 case atStart => exact ⟨0, f0, Nat.zero_le _, rfl, by simp [cnkEt], HRZ.out, fun j y hy => (HEZ.out j y hy).2.2.2, Md.refl _ _ _⟩
 case round =>
  obtain ⟨i, f, hi', rfl, rfl, hrow, hel, hmd⟩ := hrel
  have HRW : Hid (wr.rowIs b t N f) := hrow
  have HEL := Lib.hid hel
  have HMD : Hid (Md lo hi w wr) := hmd
  have hhr : hi ≤ wr.heap.size := by have := hmd.2.1; omega
  clear hrow hel hmd
  by_cases h : i < n
  ·have h' : (i : Int) < (n : Int) := by omega
   have hi0 : (0 : Int) ≤ (i : Int) := by omega
   obtain ⟨x, hx⟩ : ∃ x, l[i]? = some x := ⟨_, List.getElem?_eq_getElem (by rw [HN.out]; exact h)⟩
   have HX : Hid (l[i]? = some x) := hx
   have HSU := Lib.hid (cnkEt_succ hx)
   obtain ⟨hs1, hs2, hs3, _⟩ := HEZ.out i x hx
   have hE := HEL.out i x hx
   rw [if_neg (Nat.lt_irrefl i)] at hE
   obtain ⟨q0, q1, q2, q3⟩ := hE
   have q0 : f (o + i * 4 + 0) = .string x.fPath := q0
   have q1 : f (o + i * 4 + 1) = .int .i64 x.fKind := q1
   have q2 : f (o + i * 4 + 2) = .string x.fData := q2
   have q3 : f (o + i * 4 + 3) = .bool x.fExec := q3

   have HF0 : Hid (Fr b (s i) (e i) wr wr) := Fr.refl _ _ _ _
   obtain ⟨K0, hK0⟩ : ∃ K : Nat, k0 + cnkEt l i = K := ⟨_, rfl⟩
   have HKK : Hid (k0 + cnkEt l i = K0) := hK0
   have HCB : Hid (K0 + cn1Et x ≤ 100000000) := by
    show _ ≤ _
    have h1 := HCL.out (i + 1)
    have h2 := HKL.out
    have h3 := HSU.out
    omega
   have hK0b : K0 ≤ 100000000 := by have := HCB.out; omega
   have hK0c : K0 + 4 ≤ 100000000 := by have h9 := HCB.out; unfold cn1Et at h9; omega
   have hK0p : 0 < K0 := by omega
   rw [hK0]
   clear hK0 hx
   have HM0 : Hid (∀ W, Calls Tryz.prog 40 #[.int .i64 ((K0 : Int))] W fun e w' => e = .returned (.string (sr.mark (K0))) ∧ Below W.heap.size W w') := fun W => by
    have := sr.mark_any (K0) (by omega) (by omega) W
    rwa [show ((K0 : Nat) : Int) = (K0 : Int) by omega] at this
   obtain ⟨y0, hy0⟩ : ∃ y, sr.mark (K0) = y := ⟨_, rfl⟩
   have HY0 : Hid (sr.mark (K0) = y0) := hy0
   rw [hy0] at HM0
   clear hy0
   go_wp2_with (go_at_call 40; refine (HM0.out _).mono ?_; rintro e w0 ⟨rfl, hb⟩; refine Hid.out ?_)
   refine Lib.hid ?_
   have HR1 : Hid (w0.rowIs b t N (f)) := HRW.out.of_block (hb.block b HRW.out.lt)
   have HF1 : Hid (Fr b (s i) (e i) wr w0) := HF0.out.below hb
   clear hb HM0 
   have g0 := HR1.out.cell (i := o + i * 4) (by omega)
   have z0 := HR1.out.frozen (o + i * 4)
   have HR2 : Hid ((w0.setCell ⟨b, o + i * 4, none⟩ (.string y0)).rowIs b t N (up (f) (o + i * 4) (.string y0))) := row_up HR1.out _ _
   have HF2 : Hid (Fr b (s i) (e i) wr (w0.setCell ⟨b, o + i * 4, none⟩ (.string y0))) := HF1.out.set _ _
   have g1 := HR1.out.cell (i := o + i * 4 + 1) (by omega)
   have z1 := HR1.out.frozen (o + i * 4 + 1)
   have HR3 : Hid (((w0.setCell ⟨b, o + i * 4, none⟩ (.string y0)).setCell ⟨b, o + i * 4 + 1, none⟩ (.int .i64 ((K0 : Int) + 1))).rowIs b t N (up (up (f) (o + i * 4) (.string y0)) (o + i * 4 + 1) (.int .i64 ((K0 : Int) + 1)))) := row_up HR2.out _ _
   have HF3 : Hid (Fr b (s i) (e i) wr ((w0.setCell ⟨b, o + i * 4, none⟩ (.string y0)).setCell ⟨b, o + i * 4 + 1, none⟩ (.int .i64 ((K0 : Int) + 1)))) := HF2.out.set _ _
   have HM2 : Hid (∀ W, Calls Tryz.prog 40 #[.int .i64 ((K0 : Int) + 1 + 1)] W fun e w' => e = .returned (.string (sr.mark (K0 + 2))) ∧ Below W.heap.size W w') := fun W => by
    have := sr.mark_any (K0 + 2) (by omega) (by omega) W
    rwa [show ((K0 + 2 : Nat) : Int) = (K0 : Int) + 1 + 1 by omega] at this
   obtain ⟨y2, hy2⟩ : ∃ y, sr.mark (K0 + 2) = y := ⟨_, rfl⟩
   have HY2 : Hid (sr.mark (K0 + 2) = y2) := hy2
   rw [hy2] at HM2
   clear hy2
   go_wp2_with (go_at_call 40; refine (HM2.out _).mono ?_; rintro e w2 ⟨rfl, hb⟩; refine Hid.out ?_)
   refine Lib.hid ?_
   have HR4 : Hid (w2.rowIs b t N (up (up (f) (o + i * 4) (.string y0)) (o + i * 4 + 1) (.int .i64 ((K0 : Int) + 1)))) := HR3.out.of_block (hb.block b HR3.out.lt)
   have HF4 : Hid (Fr b (s i) (e i) wr w2) := HF3.out.below hb
   clear hb HM2 g0 z0 g1 z1
   have g2 := HR4.out.cell (i := o + i * 4 + 2) (by omega)
   have z2 := HR4.out.frozen (o + i * 4 + 2)
   have HR5 : Hid ((w2.setCell ⟨b, o + i * 4 + 2, none⟩ (.string y2)).rowIs b t N (up (up (up (f) (o + i * 4) (.string y0)) (o + i * 4 + 1) (.int .i64 ((K0 : Int) + 1))) (o + i * 4 + 2) (.string y2))) := row_up HR4.out _ _
   have HF5 : Hid (Fr b (s i) (e i) wr (w2.setCell ⟨b, o + i * 4 + 2, none⟩ (.string y2))) := HF4.out.set _ _
   obtain ⟨y3, hy3⟩ : ∃ t, decide (((K0 : Int) + 1 + 1 + 1) % 3 = 0) = t := ⟨_, rfl⟩
   have hyb3 : (((K0 : Int) + 1 + 1 + 1) % 3 == 0) = y3 := by rw [← hy3]; rfl
   have HY3 := Lib.hid hy3
   have g3 := HR4.out.cell (i := o + i * 4 + 3) (by omega)
   have z3 := HR4.out.frozen (o + i * 4 + 3)
   have HR6 : Hid (((w2.setCell ⟨b, o + i * 4 + 2, none⟩ (.string y2)).setCell ⟨b, o + i * 4 + 3, none⟩ (.bool y3)).rowIs b t N (up (up (up (up (f) (o + i * 4) (.string y0)) (o + i * 4 + 1) (.int .i64 ((K0 : Int) + 1))) (o + i * 4 + 2) (.string y2)) (o + i * 4 + 3) (.bool y3))) := row_up HR5.out _ _
   have HF6 : Hid (Fr b (s i) (e i) wr ((w2.setCell ⟨b, o + i * 4 + 2, none⟩ (.string y2)).setCell ⟨b, o + i * 4 + 3, none⟩ (.bool y3))) := HF5.out.set _ _
   have HEN : Hid (E1Et (s i) (e i) ((w2.setCell ⟨b, o + i * 4 + 2, none⟩ (.string y2)).setCell ⟨b, o + i * 4 + 3, none⟩ (.bool y3)) (fun r => (up (up (up (up (f) (o + i * 4) (.string y0)) (o + i * 4 + 1) (.int .i64 ((K0 : Int) + 1))) (o + i * 4 + 2) (.string y2)) (o + i * 4 + 3) (.bool y3)) (o + i * 4 + r)) (mk1Et K0 x)) := ⟨(by show (up (up (up (up (f) (o + i * 4) (.string y0)) (o + i * 4 + 1) (.int .i64 ((K0 : Int) + 1))) (o + i * 4 + 2) (.string y2)) (o + i * 4 + 3) (.bool y3)) (o + i * 4 + 0) = .string (sr.mark (K0)); exact (up_oth (by omega)).trans ((up_oth (by omega)).trans ((up_oth (by omega)).trans ((up_at (by omega)).trans (congrArg Value.string (HY0.out.symm.trans (congrArg sr.mark (by  omega)))))))), (by show (up (up (up (up (f) (o + i * 4) (.string y0)) (o + i * 4 + 1) (.int .i64 ((K0 : Int) + 1))) (o + i * 4 + 2) (.string y2)) (o + i * 4 + 3) (.bool y3)) (o + i * 4 + 1) = .int .i64 (((K0 + 1 : Nat)) : Int); exact (up_oth (by omega)).trans ((up_oth (by omega)).trans ((up_at (by omega)).trans (congrArg (Value.int .i64) (by  omega))))), (by show (up (up (up (up (f) (o + i * 4) (.string y0)) (o + i * 4 + 1) (.int .i64 ((K0 : Int) + 1))) (o + i * 4 + 2) (.string y2)) (o + i * 4 + 3) (.bool y3)) (o + i * 4 + 2) = .string (sr.mark (K0 + 2)); exact (up_oth (by omega)).trans ((up_at (by omega)).trans (congrArg Value.string (HY2.out.symm.trans (congrArg sr.mark (by  omega)))))), (by show (up (up (up (up (f) (o + i * 4) (.string y0)) (o + i * 4 + 1) (.int .i64 ((K0 : Int) + 1))) (o + i * 4 + 2) (.string y2)) (o + i * 4 + 3) (.bool y3)) (o + i * 4 + 3) = .bool (decide (((K0 + 3 : Nat) : Int) % 3 = 0)); exact (up_at (by omega)).trans (congrArg Value.bool (HY3.out.symm.trans (by  rw [show (((K0 + 3 : Nat)) : Int) = (K0 : Int) + 1 + 1 + 1 by omega]))))⟩
   have HEA : Hid (∀ (j : Nat) (y : Et), l[j]? = some y → E1Et (s j) (e j) ((w2.setCell ⟨b, o + i * 4 + 2, none⟩ (.string y2)).setCell ⟨b, o + i * 4 + 3, none⟩ (.bool y3)) (fun r => (up (up (up (up (f) (o + i * 4) (.string y0)) (o + i * 4 + 1) (.int .i64 ((K0 : Int) + 1))) (o + i * 4 + 2) (.string y2)) (o + i * 4 + 3) (.bool y3)) (o + j * 4 + r)) (if j < i + 1 then mk1Et (k0 + cnkEt l j) y else y)) := fun j y hy => by
    by_cases hji : j = i
    ·subst hji
     have hxy : x = y := Option.some.inj (HX.out.symm.trans hy)
     rw [if_pos (by omega), HKK.out, ← hxy]
     exact HEN.out
    ·have hold := HEL.out j y hy
     rw [show (if j < i + 1 then mk1Et (k0 + cnkEt l j) y else y) = (if j < i then mk1Et (k0 + cnkEt l j) y else y) by by_cases hj2 : j < i <;> simp [hj2] <;> omega]
     have hjl := (List.getElem?_eq_some_iff.1 hy).1
     have hil : i < l.length := by rw [HN.out]; exact h
     obtain ⟨u1, u2, u3, _⟩ := HEZ.out j y hy
     have hdj : e i ≤ s j ∨ e j ≤ s i := by
      rcases Nat.lt_or_ge j i with h9 | h9
      ·exact (HDI.out j i h9 hil).symm
      ·exact HDI.out i j (by omega) hjl
     exact hold.kept (fun r hr => (by show (up (up (up (up (f) (o + i * 4) (.string y0)) (o + i * 4 + 1) (.int .i64 ((K0 : Int) + 1))) (o + i * 4 + 2) (.string y2)) (o + i * 4 + 3) (.bool y3)) (o + j * 4 + r) = f (o + j * 4 + r); exact (up_oth (by omega)).trans ((up_oth (by omega)).trans ((up_oth (by omega)).trans ((up_oth (by omega)).trans (rfl)))))) (fun p p1 p2 => HF6.out.2.2 p (by omega) (by omega) (by omega))
   have HME : Hid (Md lo hi w ((w2.setCell ⟨b, o + i * 4 + 2, none⟩ (.string y2)).setCell ⟨b, o + i * 4 + 3, none⟩ (.bool y3))) := HMD.out.trans (HF6.out.to hl hh hs1 hs2)
   clear q0 q1 q2 q3
   go_wp2
   go_roundw
   case rel => exact ⟨i + 1, _, by omega, by go_num, by (rw [HSU.out]; unfold cn1Et;  have := HKK.out; go_num), HR6.out, HEA.out, HME.out⟩
   case measure => simp [intOf]; omega
  ·have h' : ¬ (i : Int) < (n : Int) := by omega
   obtain rfl : i = n := by omega
   have HE : Hid (cnkEt l i = cnEt l) := by show _ = _; unfold cnEt; rw [HN.out]
   rw [HE.out]
   have HGE : Hid (GEt lo hi wr (some ⟨b, o, none⟩) (mkEt k0 l)) := ⟨b, o, t, N, f, s, e, rfl, hl, hh, HRW.out, by rw [mkEt_len, HN.out]; exact hN, fun j y hy => by
    obtain ⟨x, hx, rfl⟩ := mkEt_of hy
    obtain ⟨u1, u2, u3, _⟩ := HEZ.out j x hx
    have := HEL.out j x hx
    rw [if_pos (by have := (List.getElem?_eq_some_iff.1 hx).1; have := HN.out; omega)] at this
    exact ⟨u1, u2, u3, this⟩, fun p q h1 h2 => HDI.out p q h1 (by rw [mkEt_len] at h2; exact h2)⟩
   go_wp2
   go_ret
   exact ⟨rfl, HGE.out, HMD.out⟩
theorem heldEt_any (a : Option Addr) (c : Nat) (l : List Et) (k0 : Nat) (w : World) (hR : SrcEt none w a (mkEt k0 l)) (h0 : 0 < k0) (hk : k0 + cnEt l ≤ 100000000) :
  Calls Tryz.prog 88 #[.slice a l.length c, .int .i64 (k0 : Int)] w fun e w' => e = .returned (.int .i64 ((k0 + cnEt l : Nat) : Int)) ∧ Below w.heap.size w w' := by
 have HER := Lib.hid hR
 have HCL := Lib.hid (cnkEt_le l)
 have HKL : Hid (k0 + cnEt l ≤ 100000000) := hk
 obtain ⟨n, hn⟩ : ∃ n, l.length = n := ⟨_, rfl⟩
 have HNN : Hid (l.length = n) := hn
 have hn9 : n ≤ 100000000 := by have h1 := cnEt_len l; have h2 := HKL.out; omega
 rw [hn]
 clear hR hn hk
 go_enter Tryz.func88, Tryz.ntmps88
 go_wp2
 go_loopw [1, 5] (fun v x wr => ∃ (i : Nat), i ≤ n ∧ x = .int .i64 (i : Int) ∧ v = .int .i64 ((k0 + cnkEt l i : Nat) : Int) ∧ Below w.heap.size w wr) (fun _ x _ => n - (intOf x).toNat)
 case atStart => exact ⟨0, Nat.zero_le _, rfl, by simp [cnkEt], Below.refl _ _⟩
 case round =>
  obtain ⟨i, hi, rfl, rfl, hbel⟩ := hrel
  have HBB : Hid (Below w.heap.size w wr) := hbel
  clear hbel
  by_cases h : i < n
  ·have h' : (i : Int) < (n : Int) := by omega
   have hi0 : (0 : Int) ≤ (i : Int) := by omega
   obtain ⟨x, hx⟩ : ∃ x, l[i]? = some x := ⟨_, List.getElem?_eq_getElem (by rw [HNN.out]; exact h)⟩
   have HX : Hid (l[i]? = some x) := hx
   have HSU := Lib.hid (cnkEt_succ hx)
   rcases HER.out with he | ⟨b, o, rfl, _, hc⟩
   ·have := congrArg List.length he.2; rw [mkEt_len, HNN.out] at this; simp at this; omega
   have hcx := hc i _ (mkEt_at hx)
   obtain ⟨K0, hK0⟩ : ∃ K : Nat, k0 + cnkEt l i = K := ⟨_, rfl⟩
   rw [hK0] at hcx
   have HKK : Hid (k0 + cnkEt l i = K0) := hK0
   have HCB : Hid (K0 + cn1Et x ≤ 100000000) := by
    show _ ≤ _
    have h1 := HCL.out (i + 1)
    have h2 := HKL.out
    have h3 := HSU.out
    omega
   have hK0b : K0 ≤ 100000000 := by have := HCB.out; omega
   have hK0c : K0 + 4 ≤ 100000000 := by have h9 := HCB.out; unfold cn1Et at h9; omega
   have hK0p : 0 < K0 := by omega
   rw [hK0]
   obtain ⟨e0, e1, e2, e3⟩ := hcx
   have HC : Hid (∀ W, Below w.heap.size w W → W.cell? ⟨b, o + i * 4, none⟩ = some (.string (sr.mark (K0))) ∧ W.cell? ⟨b, o + i * 4 + 1, none⟩ = some (.int .i64 (((K0 + 1 : Nat)) : Int)) ∧ W.cell? ⟨b, o + i * 4 + 2, none⟩ = some (.string (sr.mark (K0 + 2))) ∧ W.cell? ⟨b, o + i * 4 + 3, none⟩ = some (.bool (decide (((K0 + 3 : Nat) : Int) % 3 = 0)))) := fun W hW => by
    have kk : ∀ {p v}, w.cell? ⟨b, p, none⟩ = some v → W.cell? ⟨b, p, none⟩ = some v := fun {p v} h => (hW.cell (p := ⟨b, p, none⟩) (World.block_lt_of_cell? _ _ h)).trans h
    exact ⟨kk e0, kk e1, kk e2, kk e3⟩

   obtain ⟨y0, hy0⟩ : ∃ y, sr.mark (K0) = y := ⟨_, rfl⟩
   have HY0 : Hid (sr.mark (K0) = y0) := hy0
   rw [hy0] at HC
   clear hy0
   obtain ⟨y2, hy2⟩ : ∃ y, sr.mark (K0 + 2) = y := ⟨_, rfl⟩
   have HY2 : Hid (sr.mark (K0 + 2) = y2) := hy2
   rw [hy2] at HC
   clear hy2
   clear hK0 hx hc e0 e1 e2 e3 
   have HM0 : Hid (∀ W, Calls Tryz.prog 40 #[.int .i64 ((K0 : Int))] W fun e w' => e = .returned (.string y0) ∧ Below W.heap.size W w') := fun W => by
    have := sr.mark_any (K0) (by omega) (by omega) W
    rw [show ((K0 : Nat) : Int) = (K0 : Int) by omega] at this
    rwa [show sr.mark (K0) = y0 from (congrArg sr.mark (by  omega)).trans HY0.out] at this
   have HCd0 : Hid (∀ W, Below w.heap.size w W → W.cell? ⟨b, o + i * 4, none⟩ = some (.string y0)) := fun W hW => (HC.out W hW).1
   have dd0 := HCd0.out wr HBB.out
   go_wp2_with fail
   go_region_held3 (fun w' => w'.cell? ⟨b, o + i * 4, none⟩ = some (.string y0))
    (first | go_keep | exact HCd0.out _ (HBB.out.drew.trans (hb1.mono HBB.out.size)))
    (first | ((go_at_call 40; refine (HM0.out _).mono ?_; rintro e w0 ⟨rfl, hb1⟩)))
   have HB0 : Hid (Below w.heap.size w w0) := HBB.out.drew.trans (hb1.mono HBB.out.size)
   clear hb1 dd0 
   have dd1 : w0.cell? ⟨b, o + i * 4 + 1, none⟩ = some (.int .i64 ((K0 : Int) + 1)) := by have := (HC.out w0 HB0.out).2.1; rwa [show ((K0 + 1 : Nat) : Int) = (K0 : Int) + 1 by  omega] at this
   have HM2 : Hid (∀ W, Calls Tryz.prog 40 #[.int .i64 ((K0 : Int) + 1 + 1)] W fun e w' => e = .returned (.string y2) ∧ Below W.heap.size W w') := fun W => by
    have := sr.mark_any (K0 + 2) (by omega) (by omega) W
    rw [show ((K0 + 2 : Nat) : Int) = (K0 : Int) + 1 + 1 by omega] at this
    rwa [show sr.mark (K0 + 2) = y2 from (congrArg sr.mark (by  omega)).trans HY2.out] at this
   have HCd2 : Hid (∀ W, Below w.heap.size w W → W.cell? ⟨b, o + i * 4 + 2, none⟩ = some (.string y2)) := fun W hW => (HC.out W hW).2.2.1
   have dd2 := HCd2.out w0 HB0.out
   go_wp2_with fail
   go_region_held3 (fun w' => w'.cell? ⟨b, o + i * 4 + 2, none⟩ = some (.string y2))
    (first | go_keep | exact HCd2.out _ (HB0.out.drew.trans (hb1.mono HB0.out.size)))
    (first | ((go_at_call 40; refine (HM2.out _).mono ?_; rintro e w2 ⟨rfl, hb1⟩)))
   have HB2 : Hid (Below w.heap.size w w2) := HB0.out.drew.trans (hb1.mono HB0.out.size)
   clear hb1 dd2 dd1
   obtain ⟨y3, hy3⟩ : ∃ t, decide (((K0 : Int) + 1 + 1 + 1) % 3 = 0) = t := ⟨_, rfl⟩
   have hyb3 : (((K0 : Int) + 1 + 1 + 1) % 3 == 0) = y3 := by rw [← hy3]; rfl
   have dd3 : w2.cell? ⟨b, o + i * 4 + 3, none⟩ = some (.bool y3) := by have := (HC.out w2 HB2.out).2.2.2; rw [show ((K0 + 3 : Nat) : Int) = (K0 : Int) + 1 + 1 + 1 by  omega] at this; rwa [hy3] at this
   go_wp2_with fail
   go_roundw
   case rel => exact ⟨i + 1, by omega, by go_num, by (rw [HSU.out]; unfold cn1Et;  have := HKK.out; go_num), HB2.out⟩
   case measure => simp [intOf]; omega
  ·have h' : ¬ (i : Int) < (n : Int) := by omega
   obtain rfl : i = n := by omega
   have HE : Hid (cnkEt l i = cnEt l) := by show _ = _; unfold cnEt; rw [HNN.out]
   rw [HE.out]
   go_wp2
   go_ret
   exact ⟨rfl, HBB.out⟩
def mk1It (k : Nat) (x : It) : It := ⟨sr.mark (k), sr.mark (k + 1), mkS (k + 2) x.fRefs, sr.mark ((k + 2 + cnS x.fRefs)), mkEt ((k + 2 + cnS x.fRefs) + 1) x.fTree⟩
def mkIt (k : Nat) (l : List It) : List It := l.mapIdx fun i x => mk1It (k + cnkIt l i) x
theorem mkIt_len (k : Nat) (l : List It) : (mkIt k l).length = l.length := by simp [mkIt]
theorem mkIt_at {k : Nat} {l : List It} {i : Nat} {x : It} (h : l[i]? = some x) : (mkIt k l)[i]? = some (mk1It (k + cnkIt l i) x) := by simp [mkIt, h]
theorem mkIt_of {k : Nat} {l : List It} {i : Nat} {y : It} (h : (mkIt k l)[i]? = some y) : ∃ x, l[i]? = some x ∧ y = mk1It (k + cnkIt l i) x := by
 have hi := (List.getElem?_eq_some_iff.1 h).1
 rw [mkIt_len] at hi
 have hx := List.getElem?_eq_getElem hi
 rw [mkIt_at hx] at h
 exact ⟨_, hx, (Option.some.inj h).symm⟩
def E1It (lo hi : Nat) (w : World) (g : Nat → Value) (x : It) : Prop := ∃ a2 c2 s2 e2, ∃ a4 c4 s4 e4, g 0 = .string x.fPath ∧ g 1 = .string x.fSum ∧ g 2 = .slice a2 x.fRefs.length c2 ∧ g 3 = .string x.fFrom ∧ g 4 = .slice a4 x.fTree.length c4 ∧ (GS s2 e2 w a2 x.fRefs ∧ lo ≤ s2 ∧ e2 ≤ hi) ∧ (GEt s4 e4 w a4 x.fTree ∧ lo ≤ s4 ∧ e4 ≤ hi) ∧ (e2 ≤ s4 ∨ e4 ≤ s2)
theorem E1It.kept {lo hi : Nat} {w w' : World} {g g' : Nat → Value} {x : It} (h : E1It lo hi w g x) (hg : ∀ r, r < 5 → g' r = g r) (hk : ∀ p, lo ≤ p → p < hi → w'.heap[p]? = w.heap[p]?) : E1It lo hi w' g' x := by
 obtain ⟨a2, c2, s2, e2, a4, c4, s4, e4, q0, q1, q2, q3, q4, ⟨G2, b2, t2⟩, ⟨G4, b4, t4⟩, d2_4⟩ := h
 exact ⟨a2, c2, s2, e2, a4, c4, s4, e4, (hg 0 (by omega)).trans q0, (hg 1 (by omega)).trans q1, (hg 2 (by omega)).trans q2, (hg 3 (by omega)).trans q3, (hg 4 (by omega)).trans q4, ⟨G2.kept (fun p h1 h2 => hk p (by omega) (by omega)), b2, t2⟩, ⟨G4.kept (fun p h1 h2 => hk p (by omega) (by omega)), b4, t4⟩, d2_4⟩
def GIt (lo hi : Nat) (w : World) (a : Option Addr) (l : List It) : Prop := ∃ b o t N f, ∃ s e : Nat → Nat, a = some ⟨b, o, none⟩ ∧ lo ≤ b ∧ b < hi ∧ w.rowIs b t N f ∧ o + l.length * 5 ≤ N ∧ (∀ (i : Nat) (x : It), l[i]? = some x → lo ≤ s i ∧ e i ≤ hi ∧ (b < s i ∨ e i ≤ b) ∧ E1It (s i) (e i) w (fun r => f (o + i * 5 + r)) x) ∧ (∀ i j, i < j → j < l.length → e i ≤ s j ∨ e j ≤ s i)
theorem GIt.kept {lo hi : Nat} {w w' : World} {a : Option Addr} {l : List It} (h : GIt lo hi w a l) (hk : ∀ p, lo ≤ p → p < hi → w'.heap[p]? = w.heap[p]?) : GIt lo hi w' a l := by
 obtain ⟨b, o, t, N, f, s, e, h0, h1, h2, h3, h4, h5, h6⟩ := h
 exact ⟨b, o, t, N, f, s, e, h0, h1, h2, h3.of_block (hk b h1 h2), h4, fun i x hx => by
  obtain ⟨k1, k2, k3, k4⟩ := h5 i x hx
  exact ⟨k1, k2, k3, k4.kept (fun _ _ => rfl) fun p g1 g2 => hk p (by omega) (by omega)⟩, h6⟩
theorem GIt.src {lo hi : Nat} {w : World} {a : Option Addr} {l : List It} (h : GIt lo hi w a l) : SrcIt none w a l := by
 obtain ⟨b, o, t, N, f, s, e, h0, h1, h2, h3, h4, h5, h6⟩ := h
 refine .inr ⟨b, o, h0, Okb.free _ _, fun i x hx => ?_⟩
 have hi := (List.getElem?_eq_some_iff.1 hx).1
 obtain ⟨k1, k2, k3, k4⟩ := h5 i x hx
 obtain ⟨a2, c2, s2, e2, a4, c4, s4, e4, q0, q1, q2, q3, q4, ⟨G2, b2, t2⟩, ⟨G4, b4, t4⟩, d2_4⟩ := k4
 exact ⟨a2, c2, a4, c4, (h3.cell (i := o + i * 5) (by omega)).trans (congrArg some q0), (h3.cell (i := o + i * 5 + 1) (by omega)).trans (congrArg some q1), (h3.cell (i := o + i * 5 + 2) (by omega)).trans (congrArg some q2), (h3.cell (i := o + i * 5 + 3) (by omega)).trans (congrArg some q3), (h3.cell (i := o + i * 5 + 4) (by omega)).trans (congrArg some q4), G2.src, G4.src, (fun lo h => by cases h), (fun lo h => by cases h)⟩
theorem markGIt_any (lo hi : Nat) (a : Option Addr) (c : Nat) (l : List It) (k0 : Nat) (w : World) (hG : GIt lo hi w a l) (hhi : hi ≤ w.heap.size) (h0 : 0 < k0) (hk : k0 + cnIt l ≤ 100000000) :
  Calls Tryz.prog 36 #[.slice a l.length c, .int .i64 (k0 : Int)] w fun e w' => e = .returned (.int .i64 ((k0 + cnIt l : Nat) : Int)) ∧ GIt lo hi w' a (mkIt k0 l) ∧ Md lo hi w w' := by
 obtain ⟨b, o, t, N, f0, s, e, rfl, hl, hh, hrow, hN, hel, hdis⟩ := hG
 have HRZ : Hid (w.rowIs b t N f0) := hrow
 have HEZ := Lib.hid hel
 have HDI := Lib.hid hdis
 have HCL := Lib.hid (cnkIt_le l)
 have HKL : Hid (k0 + cnIt l ≤ 100000000) := hk
 clear hrow hel hdis hk
 obtain ⟨n, hn⟩ : ∃ n, l.length = n := ⟨_, rfl⟩
 have HN : Hid (l.length = n) := hn
 have hn9 : n ≤ 100000000 := by have h1 := cnIt_len l; have h2 := HKL.out; omega
 rw [hn] at hN ⊢
 clear hn
 go_enter Tryz.func36, Tryz.ntmps36
 go_wp2
 go_loopw [1, 5] (fun a x wr => ∃ (i : Nat) (f : Nat → Value), i ≤ n ∧ x = .int .i64 (i : Int) ∧ a = .int .i64 ((k0 + cnkIt l i : Nat) : Int) ∧ wr.rowIs b t N f ∧ (∀ (j : Nat) (y : It), l[j]? = some y → E1It (s j) (e j) wr (fun r => f (o + j * 5 + r)) (if j < i then mk1It (k0 + cnkIt l j) y else y)) ∧ Md lo hi w wr) (fun _ x _ => n - (intOf x).toNat)
 case atStart => exact ⟨0, f0, Nat.zero_le _, rfl, by simp [cnkIt], HRZ.out, fun j y hy => (HEZ.out j y hy).2.2.2, Md.refl _ _ _⟩
 case round =>
  obtain ⟨i, f, hi', rfl, rfl, hrow, hel, hmd⟩ := hrel
  have HRW : Hid (wr.rowIs b t N f) := hrow
  have HEL := Lib.hid hel
  have HMD : Hid (Md lo hi w wr) := hmd
  have hhr : hi ≤ wr.heap.size := by have := hmd.2.1; omega
  clear hrow hel hmd
  by_cases h : i < n
  ·have h' : (i : Int) < (n : Int) := by omega
   have hi0 : (0 : Int) ≤ (i : Int) := by omega
   obtain ⟨x, hx⟩ : ∃ x, l[i]? = some x := ⟨_, List.getElem?_eq_getElem (by rw [HN.out]; exact h)⟩
   have HX : Hid (l[i]? = some x) := hx
   have HSU := Lib.hid (cnkIt_succ hx)
   obtain ⟨hs1, hs2, hs3, _⟩ := HEZ.out i x hx
   have hE := HEL.out i x hx
   rw [if_neg (Nat.lt_irrefl i)] at hE
   obtain ⟨a2, c2, s2, e2, a4, c4, s4, e4, q0, q1, q2, q3, q4, ⟨G2, b2, t2⟩, ⟨G4, b4, t4⟩, d2_4⟩ := hE
   have q0 : f (o + i * 5 + 0) = .string x.fPath := q0
   have q1 : f (o + i * 5 + 1) = .string x.fSum := q1
   have q2 : f (o + i * 5 + 2) = .slice a2 x.fRefs.length c2 := q2
   have q3 : f (o + i * 5 + 3) = .string x.fFrom := q3
   have q4 : f (o + i * 5 + 4) = .slice a4 x.fTree.length c4 := q4
   have HG2_0 : Hid (GS s2 e2 wr a2 x.fRefs) := G2
   have HG4_0 : Hid (GEt s4 e4 wr a4 x.fTree) := G4
   have HF0 : Hid (Fr b (s i) (e i) wr wr) := Fr.refl _ _ _ _
   obtain ⟨K0, hK0⟩ : ∃ K : Nat, k0 + cnkIt l i = K := ⟨_, rfl⟩
   have HKK : Hid (k0 + cnkIt l i = K0) := hK0
   have HCB : Hid (K0 + cn1It x ≤ 100000000) := by
    show _ ≤ _
    have h1 := HCL.out (i + 1)
    have h2 := HKL.out
    have h3 := HSU.out
    omega
   have hK0b : K0 ≤ 100000000 := by have := HCB.out; omega
   have hK0c : K0 + 3 ≤ 100000000 := by have h9 := HCB.out; unfold cn1It at h9; omega
   have hK0p : 0 < K0 := by omega
   rw [hK0]
   clear hK0 hx
   have HM0 : Hid (∀ W, Calls Tryz.prog 40 #[.int .i64 ((K0 : Int))] W fun e w' => e = .returned (.string (sr.mark (K0))) ∧ Below W.heap.size W w') := fun W => by
    have := sr.mark_any (K0) (by omega) (by omega) W
    rwa [show ((K0 : Nat) : Int) = (K0 : Int) by omega] at this
   obtain ⟨y0, hy0⟩ : ∃ y, sr.mark (K0) = y := ⟨_, rfl⟩
   have HY0 : Hid (sr.mark (K0) = y0) := hy0
   rw [hy0] at HM0
   clear hy0
   go_wp2_with (go_at_call 40; refine (HM0.out _).mono ?_; rintro e w0 ⟨rfl, hb⟩; refine Hid.out ?_)
   refine Lib.hid ?_
   have HR1 : Hid (w0.rowIs b t N (f)) := HRW.out.of_block (hb.block b HRW.out.lt)
   have HF1 : Hid (Fr b (s i) (e i) wr w0) := HF0.out.below hb
   have HG2_1 : Hid (GS s2 e2 w0 a2 (x.fRefs)) := HG2_0.out.kept (kp_below (b := b) (s := s2) (e := e2) (cur := wr) (fun p hp => rfl) (Nat.le_refl _) hb (by have := HF0.out.2.1; omega) (by omega))
   have HG4_1 : Hid (GEt s4 e4 w0 a4 (x.fTree)) := HG4_0.out.kept (kp_below (b := b) (s := s4) (e := e4) (cur := wr) (fun p hp => rfl) (Nat.le_refl _) hb (by have := HF0.out.2.1; omega) (by omega))
   clear hb HM0 
   have g0 := HR1.out.cell (i := o + i * 5) (by omega)
   have z0 := HR1.out.frozen (o + i * 5)
   have HR2 : Hid ((w0.setCell ⟨b, o + i * 5, none⟩ (.string y0)).rowIs b t N (up (f) (o + i * 5) (.string y0))) := row_up HR1.out _ _
   have HF2 : Hid (Fr b (s i) (e i) wr (w0.setCell ⟨b, o + i * 5, none⟩ (.string y0))) := HF1.out.set _ _
   have HM1 : Hid (∀ W, Calls Tryz.prog 40 #[.int .i64 ((K0 : Int) + 1)] W fun e w' => e = .returned (.string (sr.mark (K0 + 1))) ∧ Below W.heap.size W w') := fun W => by
    have := sr.mark_any (K0 + 1) (by omega) (by omega) W
    rwa [show ((K0 + 1 : Nat) : Int) = (K0 : Int) + 1 by omega] at this
   obtain ⟨y1, hy1⟩ : ∃ y, sr.mark (K0 + 1) = y := ⟨_, rfl⟩
   have HY1 : Hid (sr.mark (K0 + 1) = y1) := hy1
   rw [hy1] at HM1
   clear hy1
   go_wp2_with (go_at_call 40; refine (HM1.out _).mono ?_; rintro e w1 ⟨rfl, hb⟩; refine Hid.out ?_)
   refine Lib.hid ?_
   have HR3 : Hid (w1.rowIs b t N (up (f) (o + i * 5) (.string y0))) := HR2.out.of_block (hb.block b HR2.out.lt)
   have HF3 : Hid (Fr b (s i) (e i) wr w1) := HF2.out.below hb
   have HG2_3 : Hid (GS s2 e2 w1 a2 (x.fRefs)) := HG2_1.out.kept (kp_below (b := b) (s := s2) (e := e2) (cur := w0) (fun p hp => (sb hp).trans (rfl)) (by simp) hb (by have := HF1.out.2.1; omega) (by omega))
   have HG4_3 : Hid (GEt s4 e4 w1 a4 (x.fTree)) := HG4_1.out.kept (kp_below (b := b) (s := s4) (e := e4) (cur := w0) (fun p hp => (sb hp).trans (rfl)) (by simp) hb (by have := HF1.out.2.1; omega) (by omega))
   clear hb HM1 g0 z0
   have g1 := HR3.out.cell (i := o + i * 5 + 1) (by omega)
   have z1 := HR3.out.frozen (o + i * 5 + 1)
   have HR4 : Hid ((w1.setCell ⟨b, o + i * 5 + 1, none⟩ (.string y1)).rowIs b t N (up (up (f) (o + i * 5) (.string y0)) (o + i * 5 + 1) (.string y1))) := row_up HR3.out _ _
   have HF4 : Hid (Fr b (s i) (e i) wr (w1.setCell ⟨b, o + i * 5 + 1, none⟩ (.string y1))) := HF3.out.set _ _
   have HM2 : Hid (∀ W, GS s2 e2 W a2 x.fRefs → e2 ≤ W.heap.size → Calls Tryz.prog 12 #[.slice a2 x.fRefs.length c2, .int .i64 ((K0 : Int) + 1 + 1)] W fun e w' => e = .returned (.int .i64 ((K0 + 2 + cnS x.fRefs : Nat) : Int)) ∧ GS s2 e2 w' a2 (mkS (K0 + 2) x.fRefs) ∧ Md s2 e2 W w') := fun W h hz => by
    have := markGS_any s2 e2 a2 c2 x.fRefs (K0 + 2) W h hz (by omega) (by have h9 := HCB.out;  unfold cn1It at h9; omega)
    rwa [show ((K0 + 2 : Nat) : Int) = (K0 : Int) + 1 + 1 by omega] at this
   have g2 := HR3.out.cell (i := o + i * 5 + 2) (by omega)
   rw [show _ = Value.slice a2 x.fRefs.length c2 from (up_oth (by omega)).trans (q2)] at g2
   obtain ⟨z2, hz2⟩ : ∃ z, x.fRefs.length = z := ⟨_, rfl⟩
   obtain ⟨K3, hK3⟩ : ∃ z : Nat, K0 + 2 + cnS x.fRefs = z := ⟨_, rfl⟩
   have HK3 : Hid (K0 + 2 + cnS x.fRefs = K3) := hK3
   have hKb3 : K3 ≤ 100000000 ∧ 0 < K3 := ⟨by have h9 := HCB.out;  unfold cn1It at h9; omega, by omega⟩
   have HZ2 : Hid (x.fRefs.length = z2) := hz2
   rw [hK3, hz2] at HM2
   rw [hz2] at g2
   clear hK3 hz2
   have HGX2 : Hid (GS s2 e2 (w1.setCell ⟨b, o + i * 5 + 1, none⟩ (.string y1)) a2 x.fRefs) := HG2_3.out.kept (fun p h1 h2 => (fun p hp => (sb hp).trans (rfl)) p (by omega))
   have HZX2 : Hid (e2 ≤ ((w1.setCell ⟨b, o + i * 5 + 1, none⟩ (.string y1))).heap.size) := by have h9 := HF4.out.2.1; show _ ≤ _; omega
   go_wp2_with (go_at_call 12; refine (HM2.out _ HGX2.out HZX2.out).mono ?_; rintro e w2 ⟨rfl, hgn, hb⟩; refine Hid.out ?_)
   refine Lib.hid ?_
   have HGN2 := Lib.hid hgn
   have HR6 : Hid (w2.rowIs b t N (up (up (f) (o + i * 5) (.string y0)) (o + i * 5 + 1) (.string y1))) := HR4.out.of_block (hb.2.2 b HR4.out.lt (by omega))
   have HF6 : Hid (Fr b (s i) (e i) wr w2) := HF4.out.md hb (by omega) (by omega)
   have HG4_6 : Hid (GEt s4 e4 w2 a4 (x.fTree)) := HG4_3.out.kept (kp_md (b := b) (s := s4) (e := e4) (cur := w1) (fun p hp => (sb hp).trans (rfl)) (by simp) hb (by have := HF3.out.2.1; omega) (by omega) (by omega))
   clear hb hgn HM2 g2 g1 z1
   have HM3 : Hid (∀ W, Calls Tryz.prog 40 #[.int .i64 ((K3 : Int))] W fun e w' => e = .returned (.string (sr.mark (K3))) ∧ Below W.heap.size W w') := fun W => by
    have := sr.mark_any (K3) (by omega) (by omega) W
    rwa [show ((K3 : Nat) : Int) = (K3 : Int) by omega] at this
   obtain ⟨y3, hy3⟩ : ∃ y, sr.mark (K3) = y := ⟨_, rfl⟩
   have HY3 : Hid (sr.mark (K3) = y3) := hy3
   rw [hy3] at HM3
   clear hy3
   go_wp2_with (go_at_call 40; refine (HM3.out _).mono ?_; rintro e w3 ⟨rfl, hb⟩; refine Hid.out ?_)
   refine Lib.hid ?_
   have HR7 : Hid (w3.rowIs b t N (up (up (f) (o + i * 5) (.string y0)) (o + i * 5 + 1) (.string y1))) := HR6.out.of_block (hb.block b HR6.out.lt)
   have HF7 : Hid (Fr b (s i) (e i) wr w3) := HF6.out.below hb
   have HG2_7 : Hid (GS s2 e2 w3 a2 (mkS (K0 + 2) x.fRefs)) := HGN2.out.kept (kp_below (b := b) (s := s2) (e := e2) (cur := w2) (fun p hp => rfl) (Nat.le_refl _) hb (by have := HF6.out.2.1; omega) (by omega))
   have HG4_7 : Hid (GEt s4 e4 w3 a4 (x.fTree)) := HG4_6.out.kept (kp_below (b := b) (s := s4) (e := e4) (cur := w2) (fun p hp => rfl) (Nat.le_refl _) hb (by have := HF6.out.2.1; omega) (by omega))
   clear hb HM3 
   have g3 := HR7.out.cell (i := o + i * 5 + 3) (by omega)
   have z3 := HR7.out.frozen (o + i * 5 + 3)
   have HR8 : Hid ((w3.setCell ⟨b, o + i * 5 + 3, none⟩ (.string y3)).rowIs b t N (up (up (up (f) (o + i * 5) (.string y0)) (o + i * 5 + 1) (.string y1)) (o + i * 5 + 3) (.string y3))) := row_up HR7.out _ _
   have HF8 : Hid (Fr b (s i) (e i) wr (w3.setCell ⟨b, o + i * 5 + 3, none⟩ (.string y3))) := HF7.out.set _ _
   have HM4 : Hid (∀ W, GEt s4 e4 W a4 x.fTree → e4 ≤ W.heap.size → Calls Tryz.prog 80 #[.slice a4 x.fTree.length c4, .int .i64 ((K3 : Int) + 1)] W fun e w' => e = .returned (.int .i64 ((K3 + 1 + cnEt x.fTree : Nat) : Int)) ∧ GEt s4 e4 w' a4 (mkEt (K3 + 1) x.fTree) ∧ Md s4 e4 W w') := fun W h hz => by
    have := markGEt_any s4 e4 a4 c4 x.fTree (K3 + 1) W h hz (by omega) (by have h9 := HCB.out; have h92 := HK3.out; unfold cn1It at h9; omega)
    rwa [show ((K3 + 1 : Nat) : Int) = (K3 : Int) + 1 by omega] at this
   have g4 := HR7.out.cell (i := o + i * 5 + 4) (by omega)
   rw [show _ = Value.slice a4 x.fTree.length c4 from (up_oth (by omega)).trans ((up_oth (by omega)).trans (q4))] at g4
   obtain ⟨z4, hz4⟩ : ∃ z, x.fTree.length = z := ⟨_, rfl⟩
   obtain ⟨K5, hK5⟩ : ∃ z : Nat, K3 + 1 + cnEt x.fTree = z := ⟨_, rfl⟩
   have HK5 := Lib.hid hK5
   have hKb5 : K5 ≤ 100000000 ∧ 0 < K5 := ⟨by have h9 := HCB.out; have h92 := HK3.out; unfold cn1It at h9; omega, by omega⟩
   have HZ4 : Hid (x.fTree.length = z4) := hz4
   rw [hK5, hz4] at HM4
   rw [hz4] at g4
   clear hK5 hz4
   have HGX4 : Hid (GEt s4 e4 (w3.setCell ⟨b, o + i * 5 + 3, none⟩ (.string y3)) a4 x.fTree) := HG4_7.out.kept (fun p h1 h2 => (fun p hp => (sb hp).trans (rfl)) p (by omega))
   have HZX4 : Hid (e4 ≤ ((w3.setCell ⟨b, o + i * 5 + 3, none⟩ (.string y3))).heap.size) := by have h9 := HF8.out.2.1; show _ ≤ _; omega
   go_wp2_with (go_at_call 80; refine (HM4.out _ HGX4.out HZX4.out).mono ?_; rintro e w4 ⟨rfl, hgn, hb⟩; refine Hid.out ?_)
   refine Lib.hid ?_
   have HGN4 := Lib.hid hgn
   have HR10 : Hid (w4.rowIs b t N (up (up (up (f) (o + i * 5) (.string y0)) (o + i * 5 + 1) (.string y1)) (o + i * 5 + 3) (.string y3))) := HR8.out.of_block (hb.2.2 b HR8.out.lt (by omega))
   have HF10 : Hid (Fr b (s i) (e i) wr w4) := HF8.out.md hb (by omega) (by omega)
   have HG2_10 : Hid (GS s2 e2 w4 a2 (mkS (K0 + 2) x.fRefs)) := HG2_7.out.kept (kp_md (b := b) (s := s2) (e := e2) (cur := w3) (fun p hp => (sb hp).trans (rfl)) (by simp) hb (by have := HF7.out.2.1; omega) (by omega) (by omega))
   clear hb hgn HM4 g4 g3 z3
   have HEN : Hid (E1It (s i) (e i) w4 (fun r => (up (up (up (f) (o + i * 5) (.string y0)) (o + i * 5 + 1) (.string y1)) (o + i * 5 + 3) (.string y3)) (o + i * 5 + r)) (mk1It K0 x)) := ⟨a2, c2, s2, e2, a4, c4, s4, e4, (by show (up (up (up (f) (o + i * 5) (.string y0)) (o + i * 5 + 1) (.string y1)) (o + i * 5 + 3) (.string y3)) (o + i * 5 + 0) = .string (sr.mark (K0)); exact (up_oth (by omega)).trans ((up_oth (by omega)).trans ((up_at (by omega)).trans (congrArg Value.string (HY0.out.symm.trans (congrArg sr.mark (by  omega))))))), (by show (up (up (up (f) (o + i * 5) (.string y0)) (o + i * 5 + 1) (.string y1)) (o + i * 5 + 3) (.string y3)) (o + i * 5 + 1) = .string (sr.mark (K0 + 1)); exact (up_oth (by omega)).trans ((up_at (by omega)).trans (congrArg Value.string (HY1.out.symm.trans (congrArg sr.mark (by  omega)))))), (by show (up (up (up (f) (o + i * 5) (.string y0)) (o + i * 5 + 1) (.string y1)) (o + i * 5 + 3) (.string y3)) (o + i * 5 + 2) = .slice a2 (mkS (K0 + 2) x.fRefs).length c2; rw [mkS_len]; exact (up_oth (by omega)).trans ((up_oth (by omega)).trans ((up_oth (by omega)).trans (q2)))), (by show (up (up (up (f) (o + i * 5) (.string y0)) (o + i * 5 + 1) (.string y1)) (o + i * 5 + 3) (.string y3)) (o + i * 5 + 3) = .string (sr.mark ((K0 + 2 + cnS x.fRefs))); exact (up_at (by omega)).trans (congrArg Value.string (HY3.out.symm.trans (congrArg sr.mark (by have := HK3.out; omega))))), (by show (up (up (up (f) (o + i * 5) (.string y0)) (o + i * 5 + 1) (.string y1)) (o + i * 5 + 3) (.string y3)) (o + i * 5 + 4) = .slice a4 (mkEt ((K0 + 2 + cnS x.fRefs) + 1) x.fTree).length c4; rw [mkEt_len]; exact (up_oth (by omega)).trans ((up_oth (by omega)).trans ((up_oth (by omega)).trans (q4)))), ⟨by have h9 := HG2_10.out; rw [show K0 + 2 = K0 + 2 by  omega] at h9; exact h9.kept (fun p h1 h2 => (fun p hp => rfl) p (by omega)), b2, t2⟩, ⟨by have h9 := HGN4.out; rw [show K3 + 1 = (K0 + 2 + cnS x.fRefs) + 1 by have := HK3.out; omega] at h9; exact h9.kept (fun p h1 h2 => (fun p hp => rfl) p (by omega)), b4, t4⟩, d2_4⟩
   have HEA : Hid (∀ (j : Nat) (y : It), l[j]? = some y → E1It (s j) (e j) w4 (fun r => (up (up (up (f) (o + i * 5) (.string y0)) (o + i * 5 + 1) (.string y1)) (o + i * 5 + 3) (.string y3)) (o + j * 5 + r)) (if j < i + 1 then mk1It (k0 + cnkIt l j) y else y)) := fun j y hy => by
    by_cases hji : j = i
    ·subst hji
     have hxy : x = y := Option.some.inj (HX.out.symm.trans hy)
     rw [if_pos (by omega), HKK.out, ← hxy]
     exact HEN.out
    ·have hold := HEL.out j y hy
     rw [show (if j < i + 1 then mk1It (k0 + cnkIt l j) y else y) = (if j < i then mk1It (k0 + cnkIt l j) y else y) by by_cases hj2 : j < i <;> simp [hj2] <;> omega]
     have hjl := (List.getElem?_eq_some_iff.1 hy).1
     have hil : i < l.length := by rw [HN.out]; exact h
     obtain ⟨u1, u2, u3, _⟩ := HEZ.out j y hy
     have hdj : e i ≤ s j ∨ e j ≤ s i := by
      rcases Nat.lt_or_ge j i with h9 | h9
      ·exact (HDI.out j i h9 hil).symm
      ·exact HDI.out i j (by omega) hjl
     exact hold.kept (fun r hr => (by show (up (up (up (f) (o + i * 5) (.string y0)) (o + i * 5 + 1) (.string y1)) (o + i * 5 + 3) (.string y3)) (o + j * 5 + r) = f (o + j * 5 + r); exact (up_oth (by omega)).trans ((up_oth (by omega)).trans ((up_oth (by omega)).trans (rfl))))) (fun p p1 p2 => HF10.out.2.2 p (by omega) (by omega) (by omega))
   have HME : Hid (Md lo hi w w4) := HMD.out.trans (HF10.out.to hl hh hs1 hs2)
   clear q0 q1 q2 q3 q4
   go_wp2
   go_roundw
   case rel => exact ⟨i + 1, _, by omega, by go_num, by (rw [HSU.out]; unfold cn1It; have := HK3.out; have := HK5.out; have := HKK.out; go_num), HR10.out, HEA.out, HME.out⟩
   case measure => simp [intOf]; omega
  ·have h' : ¬ (i : Int) < (n : Int) := by omega
   obtain rfl : i = n := by omega
   have HE : Hid (cnkIt l i = cnIt l) := by show _ = _; unfold cnIt; rw [HN.out]
   rw [HE.out]
   have HGE : Hid (GIt lo hi wr (some ⟨b, o, none⟩) (mkIt k0 l)) := ⟨b, o, t, N, f, s, e, rfl, hl, hh, HRW.out, by rw [mkIt_len, HN.out]; exact hN, fun j y hy => by
    obtain ⟨x, hx, rfl⟩ := mkIt_of hy
    obtain ⟨u1, u2, u3, _⟩ := HEZ.out j x hx
    have := HEL.out j x hx
    rw [if_pos (by have := (List.getElem?_eq_some_iff.1 hx).1; have := HN.out; omega)] at this
    exact ⟨u1, u2, u3, this⟩, fun p q h1 h2 => HDI.out p q h1 (by rw [mkIt_len] at h2; exact h2)⟩
   go_wp2
   go_ret
   exact ⟨rfl, HGE.out, HMD.out⟩
theorem heldIt_any (a : Option Addr) (c : Nat) (l : List It) (k0 : Nat) (w : World) (hR : SrcIt none w a (mkIt k0 l)) (h0 : 0 < k0) (hk : k0 + cnIt l ≤ 100000000) :
  Calls Tryz.prog 43 #[.slice a l.length c, .int .i64 (k0 : Int)] w fun e w' => e = .returned (.int .i64 ((k0 + cnIt l : Nat) : Int)) ∧ Below w.heap.size w w' := by
 have HER := Lib.hid hR
 have HCL := Lib.hid (cnkIt_le l)
 have HKL : Hid (k0 + cnIt l ≤ 100000000) := hk
 obtain ⟨n, hn⟩ : ∃ n, l.length = n := ⟨_, rfl⟩
 have HNN : Hid (l.length = n) := hn
 have hn9 : n ≤ 100000000 := by have h1 := cnIt_len l; have h2 := HKL.out; omega
 rw [hn]
 clear hR hn hk
 go_enter Tryz.func43, Tryz.ntmps43
 go_wp2
 go_loopw [1, 5] (fun v x wr => ∃ (i : Nat), i ≤ n ∧ x = .int .i64 (i : Int) ∧ v = .int .i64 ((k0 + cnkIt l i : Nat) : Int) ∧ Below w.heap.size w wr) (fun _ x _ => n - (intOf x).toNat)
 case atStart => exact ⟨0, Nat.zero_le _, rfl, by simp [cnkIt], Below.refl _ _⟩
 case round =>
  obtain ⟨i, hi, rfl, rfl, hbel⟩ := hrel
  have HBB : Hid (Below w.heap.size w wr) := hbel
  clear hbel
  by_cases h : i < n
  ·have h' : (i : Int) < (n : Int) := by omega
   have hi0 : (0 : Int) ≤ (i : Int) := by omega
   obtain ⟨x, hx⟩ : ∃ x, l[i]? = some x := ⟨_, List.getElem?_eq_getElem (by rw [HNN.out]; exact h)⟩
   have HX : Hid (l[i]? = some x) := hx
   have HSU := Lib.hid (cnkIt_succ hx)
   rcases HER.out with he | ⟨b, o, rfl, _, hc⟩
   ·have := congrArg List.length he.2; rw [mkIt_len, HNN.out] at this; simp at this; omega
   have hcx := hc i _ (mkIt_at hx)
   obtain ⟨K0, hK0⟩ : ∃ K : Nat, k0 + cnkIt l i = K := ⟨_, rfl⟩
   rw [hK0] at hcx
   have HKK : Hid (k0 + cnkIt l i = K0) := hK0
   have HCB : Hid (K0 + cn1It x ≤ 100000000) := by
    show _ ≤ _
    have h1 := HCL.out (i + 1)
    have h2 := HKL.out
    have h3 := HSU.out
    omega
   have hK0b : K0 ≤ 100000000 := by have := HCB.out; omega
   have hK0c : K0 + 3 ≤ 100000000 := by have h9 := HCB.out; unfold cn1It at h9; omega
   have hK0p : 0 < K0 := by omega
   rw [hK0]
   obtain ⟨a2, c2, a4, c4, e0, e1, e2, e3, e4, r2, r4, _, _⟩ := hcx
   have HC : Hid (∀ W, Below w.heap.size w W → W.cell? ⟨b, o + i * 5, none⟩ = some (.string (sr.mark (K0))) ∧ W.cell? ⟨b, o + i * 5 + 1, none⟩ = some (.string (sr.mark (K0 + 1))) ∧ W.cell? ⟨b, o + i * 5 + 2, none⟩ = some (.slice a2 x.fRefs.length c2) ∧ W.cell? ⟨b, o + i * 5 + 3, none⟩ = some (.string (sr.mark ((K0 + 2 + cnS x.fRefs)))) ∧ W.cell? ⟨b, o + i * 5 + 4, none⟩ = some (.slice a4 x.fTree.length c4)) := fun W hW => by
    have kk : ∀ {p v}, w.cell? ⟨b, p, none⟩ = some v → W.cell? ⟨b, p, none⟩ = some v := fun {p v} h => (hW.cell (p := ⟨b, p, none⟩) (World.block_lt_of_cell? _ _ h)).trans h
    exact ⟨kk e0, kk e1, (kk e2).trans (by show some (Value.slice a2 (mkS _ _).length c2) = _; rw [mkS_len]), kk e3, (kk e4).trans (by show some (Value.slice a4 (mkEt _ _).length c4) = _; rw [mkEt_len])⟩
   have HS2 : Hid (∀ W, Below w.heap.size w W → SrcS none W a2 (mkS (K0 + 2) x.fRefs)) := fun W hW => r2.below hW
   have HS4 : Hid (∀ W, Below w.heap.size w W → SrcEt none W a4 (mkEt ((K0 + 2 + cnS x.fRefs) + 1) x.fTree)) := fun W hW => r4.below hW
   obtain ⟨y0, hy0⟩ : ∃ y, sr.mark (K0) = y := ⟨_, rfl⟩
   have HY0 : Hid (sr.mark (K0) = y0) := hy0
   rw [hy0] at HC
   clear hy0
   obtain ⟨y1, hy1⟩ : ∃ y, sr.mark (K0 + 1) = y := ⟨_, rfl⟩
   have HY1 : Hid (sr.mark (K0 + 1) = y1) := hy1
   rw [hy1] at HC
   clear hy1
   obtain ⟨y3, hy3⟩ : ∃ y, sr.mark ((K0 + 2 + cnS x.fRefs)) = y := ⟨_, rfl⟩
   have HY3 := Lib.hid hy3
   rw [hy3] at HC
   clear hy3
   clear hK0 hx hc e0 e1 e2 e3 e4 r2 r4
   have HM0 : Hid (∀ W, Calls Tryz.prog 40 #[.int .i64 ((K0 : Int))] W fun e w' => e = .returned (.string y0) ∧ Below W.heap.size W w') := fun W => by
    have := sr.mark_any (K0) (by omega) (by omega) W
    rw [show ((K0 : Nat) : Int) = (K0 : Int) by omega] at this
    rwa [show sr.mark (K0) = y0 from (congrArg sr.mark (by  omega)).trans HY0.out] at this
   have HCd0 : Hid (∀ W, Below w.heap.size w W → W.cell? ⟨b, o + i * 5, none⟩ = some (.string y0)) := fun W hW => (HC.out W hW).1
   have dd0 := HCd0.out wr HBB.out
   go_wp2_with fail
   go_region_held3 (fun w' => w'.cell? ⟨b, o + i * 5, none⟩ = some (.string y0))
    (first | go_keep | exact HCd0.out _ (HBB.out.drew.trans (hb1.mono HBB.out.size)))
    (first | ((go_at_call 40; refine (HM0.out _).mono ?_; rintro e w0 ⟨rfl, hb1⟩)))
   have HB0 : Hid (Below w.heap.size w w0) := HBB.out.drew.trans (hb1.mono HBB.out.size)
   clear hb1 dd0 
   have HM1 : Hid (∀ W, Calls Tryz.prog 40 #[.int .i64 ((K0 : Int) + 1)] W fun e w' => e = .returned (.string y1) ∧ Below W.heap.size W w') := fun W => by
    have := sr.mark_any (K0 + 1) (by omega) (by omega) W
    rw [show ((K0 + 1 : Nat) : Int) = (K0 : Int) + 1 by omega] at this
    rwa [show sr.mark (K0 + 1) = y1 from (congrArg sr.mark (by  omega)).trans HY1.out] at this
   have HCd1 : Hid (∀ W, Below w.heap.size w W → W.cell? ⟨b, o + i * 5 + 1, none⟩ = some (.string y1)) := fun W hW => (HC.out W hW).2.1
   have dd1 := HCd1.out w0 HB0.out
   go_wp2_with fail
   go_region_held3 (fun w' => w'.cell? ⟨b, o + i * 5 + 1, none⟩ = some (.string y1))
    (first | go_keep | exact HCd1.out _ (HB0.out.drew.trans (hb1.mono HB0.out.size)))
    (first | ((go_at_call 40; refine (HM1.out _).mono ?_; rintro e w1 ⟨rfl, hb1⟩)))
   have HB1 : Hid (Below w.heap.size w w1) := HB0.out.drew.trans (hb1.mono HB0.out.size)
   clear hb1 dd1 
   have HM2 : Hid (∀ W, Below w.heap.size w W → Calls Tryz.prog 13 #[.slice a2 x.fRefs.length c2, .int .i64 ((K0 : Int) + 1 + 1)] W fun e w' => e = .returned (.int .i64 ((K0 + 2 + cnS x.fRefs : Nat) : Int)) ∧ Below W.heap.size W w') := fun W hW => by
    have := heldS_any a2 c2 x.fRefs (K0 + 2) W (by have h9 := HS2.out W hW; rwa [show K0 + 2 = K0 + 2 by  omega] at h9) (by omega) (by have h9 := HCB.out;  unfold cn1It at h9; omega)
    rwa [show ((K0 + 2 : Nat) : Int) = (K0 : Int) + 1 + 1 by omega] at this
   have dd2 := (HC.out w1 HB1.out).2.2.1
   obtain ⟨z2, hz2⟩ : ∃ z, x.fRefs.length = z := ⟨_, rfl⟩
   obtain ⟨K3, hK3⟩ : ∃ z : Nat, K0 + 2 + cnS x.fRefs = z := ⟨_, rfl⟩
   have HK3 : Hid (K0 + 2 + cnS x.fRefs = K3) := hK3
   have hKb3 : K3 ≤ 100000000 ∧ 0 < K3 := ⟨by have h9 := HCB.out;  unfold cn1It at h9; omega, by omega⟩
   have hng2 : ¬ (K3 : Int) < 0 := by omega
   rw [hK3, hz2] at HM2
   rw [hz2] at dd2
   clear hK3 hz2
   go_wp2_with (go_at_call 13; refine (HM2.out _ HB1.out).mono ?_; rintro e w2 ⟨rfl, hb1⟩; refine Hid.out ?_)
   refine Lib.hid ?_
   have HB2 : Hid (Below w.heap.size w w2) := HB1.out.trans (hb1.mono HB1.out.size)
   clear hb1 dd2 
   have HM3 : Hid (∀ W, Calls Tryz.prog 40 #[.int .i64 ((K3 : Int))] W fun e w' => e = .returned (.string y3) ∧ Below W.heap.size W w') := fun W => by
    have := sr.mark_any (K3) (by omega) (by omega) W
    rw [show ((K3 : Nat) : Int) = (K3 : Int) by omega] at this
    rwa [show sr.mark (K3) = y3 from (congrArg sr.mark (by have := HK3.out; omega)).trans HY3.out] at this
   have HCd3 : Hid (∀ W, Below w.heap.size w W → W.cell? ⟨b, o + i * 5 + 3, none⟩ = some (.string y3)) := fun W hW => (HC.out W hW).2.2.2.1
   have dd3 := HCd3.out w2 HB2.out
   go_wp2_with fail
   go_region_held3 (fun w' => w'.cell? ⟨b, o + i * 5 + 3, none⟩ = some (.string y3))
    (first | go_keep | exact HCd3.out _ (HB2.out.drew.trans (hb1.mono HB2.out.size)))
    (first | ((go_at_call 40; refine (HM3.out _).mono ?_; rintro e w3 ⟨rfl, hb1⟩)))
   have HB3 : Hid (Below w.heap.size w w3) := HB2.out.drew.trans (hb1.mono HB2.out.size)
   clear hb1 dd3 
   have HM4 : Hid (∀ W, Below w.heap.size w W → Calls Tryz.prog 88 #[.slice a4 x.fTree.length c4, .int .i64 ((K3 : Int) + 1)] W fun e w' => e = .returned (.int .i64 ((K3 + 1 + cnEt x.fTree : Nat) : Int)) ∧ Below W.heap.size W w') := fun W hW => by
    have := heldEt_any a4 c4 x.fTree (K3 + 1) W (by have h9 := HS4.out W hW; rwa [show (K0 + 2 + cnS x.fRefs) + 1 = K3 + 1 by have := HK3.out; omega] at h9) (by omega) (by have h9 := HCB.out; have h92 := HK3.out; unfold cn1It at h9; omega)
    rwa [show ((K3 + 1 : Nat) : Int) = (K3 : Int) + 1 by omega] at this
   have dd4 := (HC.out w3 HB3.out).2.2.2.2
   obtain ⟨z4, hz4⟩ : ∃ z, x.fTree.length = z := ⟨_, rfl⟩
   obtain ⟨K5, hK5⟩ : ∃ z : Nat, K3 + 1 + cnEt x.fTree = z := ⟨_, rfl⟩
   have HK5 := Lib.hid hK5
   have hKb5 : K5 ≤ 100000000 ∧ 0 < K5 := ⟨by have h9 := HCB.out; have h92 := HK3.out; unfold cn1It at h9; omega, by omega⟩
   have hng4 : ¬ (K5 : Int) < 0 := by omega
   rw [hK5, hz4] at HM4
   rw [hz4] at dd4
   clear hK5 hz4
   go_wp2_with (go_at_call 88; refine (HM4.out _ HB3.out).mono ?_; rintro e w4 ⟨rfl, hb1⟩; refine Hid.out ?_)
   refine Lib.hid ?_
   have HB4 : Hid (Below w.heap.size w w4) := HB3.out.trans (hb1.mono HB3.out.size)
   clear hb1 dd4 
   go_wp2_with fail
   go_roundw
   case rel => exact ⟨i + 1, by omega, by go_num, by (rw [HSU.out]; unfold cn1It; have := HK3.out; have := HK5.out; have := HKK.out; go_num), HB4.out⟩
   case measure => simp [intOf]; omega
  ·have h' : ¬ (i : Int) < (n : Int) := by omega
   obtain rfl : i = n := by omega
   have HE : Hid (cnkIt l i = cnIt l) := by show _ = _; unfold cnIt; rw [HNN.out]
   rw [HE.out]
   go_wp2
   go_ret
   exact ⟨rfl, HBB.out⟩
def mk1Ge (k : Nat) (x : Ge) : Ge := ⟨((k : Nat) : Int), sr.mark (k + 1)⟩
def mkGe (k : Nat) (l : List Ge) : List Ge := l.mapIdx fun i x => mk1Ge (k + cnkGe l i) x
theorem mkGe_len (k : Nat) (l : List Ge) : (mkGe k l).length = l.length := by simp [mkGe]
theorem mkGe_at {k : Nat} {l : List Ge} {i : Nat} {x : Ge} (h : l[i]? = some x) : (mkGe k l)[i]? = some (mk1Ge (k + cnkGe l i) x) := by simp [mkGe, h]
theorem mkGe_of {k : Nat} {l : List Ge} {i : Nat} {y : Ge} (h : (mkGe k l)[i]? = some y) : ∃ x, l[i]? = some x ∧ y = mk1Ge (k + cnkGe l i) x := by
 have hi := (List.getElem?_eq_some_iff.1 h).1
 rw [mkGe_len] at hi
 have hx := List.getElem?_eq_getElem hi
 rw [mkGe_at hx] at h
 exact ⟨_, hx, (Option.some.inj h).symm⟩
def E1Ge (lo hi : Nat) (w : World) (g : Nat → Value) (x : Ge) : Prop := g 0 = .int .i64 x.fN ∧ g 1 = .string x.fPath
theorem E1Ge.kept {lo hi : Nat} {w w' : World} {g g' : Nat → Value} {x : Ge} (h : E1Ge lo hi w g x) (hg : ∀ r, r < 2 → g' r = g r) (hk : ∀ p, lo ≤ p → p < hi → w'.heap[p]? = w.heap[p]?) : E1Ge lo hi w' g' x := by
 obtain ⟨q0, q1⟩ := h
 exact ⟨(hg 0 (by omega)).trans q0, (hg 1 (by omega)).trans q1⟩
def GGe (lo hi : Nat) (w : World) (a : Option Addr) (l : List Ge) : Prop := ∃ b o t N f, ∃ s e : Nat → Nat, a = some ⟨b, o, none⟩ ∧ lo ≤ b ∧ b < hi ∧ w.rowIs b t N f ∧ o + l.length * 2 ≤ N ∧ (∀ (i : Nat) (x : Ge), l[i]? = some x → lo ≤ s i ∧ e i ≤ hi ∧ (b < s i ∨ e i ≤ b) ∧ E1Ge (s i) (e i) w (fun r => f (o + i * 2 + r)) x) ∧ (∀ i j, i < j → j < l.length → e i ≤ s j ∨ e j ≤ s i)
theorem GGe.kept {lo hi : Nat} {w w' : World} {a : Option Addr} {l : List Ge} (h : GGe lo hi w a l) (hk : ∀ p, lo ≤ p → p < hi → w'.heap[p]? = w.heap[p]?) : GGe lo hi w' a l := by
 obtain ⟨b, o, t, N, f, s, e, h0, h1, h2, h3, h4, h5, h6⟩ := h
 exact ⟨b, o, t, N, f, s, e, h0, h1, h2, h3.of_block (hk b h1 h2), h4, fun i x hx => by
  obtain ⟨k1, k2, k3, k4⟩ := h5 i x hx
  exact ⟨k1, k2, k3, k4.kept (fun _ _ => rfl) fun p g1 g2 => hk p (by omega) (by omega)⟩, h6⟩
theorem GGe.src {lo hi : Nat} {w : World} {a : Option Addr} {l : List Ge} (h : GGe lo hi w a l) : SrcGe none w a l := by
 obtain ⟨b, o, t, N, f, s, e, h0, h1, h2, h3, h4, h5, h6⟩ := h
 refine .inr ⟨b, o, h0, Okb.free _ _, fun i x hx => ?_⟩
 have hi := (List.getElem?_eq_some_iff.1 hx).1
 obtain ⟨k1, k2, k3, k4⟩ := h5 i x hx
 obtain ⟨q0, q1⟩ := k4
 exact ⟨(h3.cell (i := o + i * 2) (by omega)).trans (congrArg some q0), (h3.cell (i := o + i * 2 + 1) (by omega)).trans (congrArg some q1)⟩
theorem markGGe_any (lo hi : Nat) (a : Option Addr) (c : Nat) (l : List Ge) (k0 : Nat) (w : World) (hG : GGe lo hi w a l) (hhi : hi ≤ w.heap.size) (h0 : 0 < k0) (hk : k0 + cnGe l ≤ 100000000) :
  Calls Tryz.prog 81 #[.slice a l.length c, .int .i64 (k0 : Int)] w fun e w' => e = .returned (.int .i64 ((k0 + cnGe l : Nat) : Int)) ∧ GGe lo hi w' a (mkGe k0 l) ∧ Md lo hi w w' := by
 obtain ⟨b, o, t, N, f0, s, e, rfl, hl, hh, hrow, hN, hel, hdis⟩ := hG
 have HRZ : Hid (w.rowIs b t N f0) := hrow
 have HEZ := Lib.hid hel
 have HDI := Lib.hid hdis
 have HCL := Lib.hid (cnkGe_le l)
 have HKL : Hid (k0 + cnGe l ≤ 100000000) := hk
 clear hrow hel hdis hk
 obtain ⟨n, hn⟩ : ∃ n, l.length = n := ⟨_, rfl⟩
 have HN : Hid (l.length = n) := hn
 have hn9 : n ≤ 100000000 := by have h1 := cnGe_len l; have h2 := HKL.out; omega
 rw [hn] at hN ⊢
 clear hn
 go_enter Tryz.func81, Tryz.ntmps81
 go_wp2
 go_loopw [1, 5] (fun a x wr => ∃ (i : Nat) (f : Nat → Value), i ≤ n ∧ x = .int .i64 (i : Int) ∧ a = .int .i64 ((k0 + cnkGe l i : Nat) : Int) ∧ wr.rowIs b t N f ∧ (∀ (j : Nat) (y : Ge), l[j]? = some y → E1Ge (s j) (e j) wr (fun r => f (o + j * 2 + r)) (if j < i then mk1Ge (k0 + cnkGe l j) y else y)) ∧ Md lo hi w wr) (fun _ x _ => n - (intOf x).toNat)
 case atStart => exact ⟨0, f0, Nat.zero_le _, rfl, by simp [cnkGe], HRZ.out, fun j y hy => (HEZ.out j y hy).2.2.2, Md.refl _ _ _⟩
 case round =>
  obtain ⟨i, f, hi', rfl, rfl, hrow, hel, hmd⟩ := hrel
  have HRW : Hid (wr.rowIs b t N f) := hrow
  have HEL := Lib.hid hel
  have HMD : Hid (Md lo hi w wr) := hmd
  have hhr : hi ≤ wr.heap.size := by have := hmd.2.1; omega
  clear hrow hel hmd
  by_cases h : i < n
  ·have h' : (i : Int) < (n : Int) := by omega
   have hi0 : (0 : Int) ≤ (i : Int) := by omega
   obtain ⟨x, hx⟩ : ∃ x, l[i]? = some x := ⟨_, List.getElem?_eq_getElem (by rw [HN.out]; exact h)⟩
   have HX : Hid (l[i]? = some x) := hx
   have HSU := Lib.hid (cnkGe_succ hx)
   obtain ⟨hs1, hs2, hs3, _⟩ := HEZ.out i x hx
   have hE := HEL.out i x hx
   rw [if_neg (Nat.lt_irrefl i)] at hE
   obtain ⟨q0, q1⟩ := hE
   have q0 : f (o + i * 2 + 0) = .int .i64 x.fN := q0
   have q1 : f (o + i * 2 + 1) = .string x.fPath := q1

   have HF0 : Hid (Fr b (s i) (e i) wr wr) := Fr.refl _ _ _ _
   obtain ⟨K0, hK0⟩ : ∃ K : Nat, k0 + cnkGe l i = K := ⟨_, rfl⟩
   have HKK : Hid (k0 + cnkGe l i = K0) := hK0
   have HCB : Hid (K0 + cn1Ge x ≤ 100000000) := by
    show _ ≤ _
    have h1 := HCL.out (i + 1)
    have h2 := HKL.out
    have h3 := HSU.out
    omega
   have hK0b : K0 ≤ 100000000 := by have := HCB.out; omega
   have hK0c : K0 + 2 ≤ 100000000 := by have h9 := HCB.out; unfold cn1Ge at h9; omega
   have hK0p : 0 < K0 := by omega
   rw [hK0]
   clear hK0 hx
   have g0 := HRW.out.cell (i := o + i * 2) (by omega)
   have z0 := HRW.out.frozen (o + i * 2)
   have HR1 : Hid ((wr.setCell ⟨b, o + i * 2, none⟩ (.int .i64 ((K0 : Int)))).rowIs b t N (up (f) (o + i * 2) (.int .i64 ((K0 : Int))))) := row_up HRW.out _ _
   have HF1 : Hid (Fr b (s i) (e i) wr (wr.setCell ⟨b, o + i * 2, none⟩ (.int .i64 ((K0 : Int))))) := HF0.out.set _ _
   have HM1 : Hid (∀ W, Calls Tryz.prog 40 #[.int .i64 ((K0 : Int) + 1)] W fun e w' => e = .returned (.string (sr.mark (K0 + 1))) ∧ Below W.heap.size W w') := fun W => by
    have := sr.mark_any (K0 + 1) (by omega) (by omega) W
    rwa [show ((K0 + 1 : Nat) : Int) = (K0 : Int) + 1 by omega] at this
   obtain ⟨y1, hy1⟩ : ∃ y, sr.mark (K0 + 1) = y := ⟨_, rfl⟩
   have HY1 : Hid (sr.mark (K0 + 1) = y1) := hy1
   rw [hy1] at HM1
   clear hy1
   go_wp2_with (go_at_call 40; refine (HM1.out _).mono ?_; rintro e w1 ⟨rfl, hb⟩; refine Hid.out ?_)
   refine Lib.hid ?_
   have HR2 : Hid (w1.rowIs b t N (up (f) (o + i * 2) (.int .i64 ((K0 : Int))))) := HR1.out.of_block (hb.block b HR1.out.lt)
   have HF2 : Hid (Fr b (s i) (e i) wr w1) := HF1.out.below hb
   clear hb HM1 g0 z0
   have g1 := HR2.out.cell (i := o + i * 2 + 1) (by omega)
   have z1 := HR2.out.frozen (o + i * 2 + 1)
   have HR3 : Hid ((w1.setCell ⟨b, o + i * 2 + 1, none⟩ (.string y1)).rowIs b t N (up (up (f) (o + i * 2) (.int .i64 ((K0 : Int)))) (o + i * 2 + 1) (.string y1))) := row_up HR2.out _ _
   have HF3 : Hid (Fr b (s i) (e i) wr (w1.setCell ⟨b, o + i * 2 + 1, none⟩ (.string y1))) := HF2.out.set _ _
   have HEN : Hid (E1Ge (s i) (e i) (w1.setCell ⟨b, o + i * 2 + 1, none⟩ (.string y1)) (fun r => (up (up (f) (o + i * 2) (.int .i64 ((K0 : Int)))) (o + i * 2 + 1) (.string y1)) (o + i * 2 + r)) (mk1Ge K0 x)) := ⟨(by show (up (up (f) (o + i * 2) (.int .i64 ((K0 : Int)))) (o + i * 2 + 1) (.string y1)) (o + i * 2 + 0) = .int .i64 (((K0 : Nat)) : Int); exact (up_oth (by omega)).trans ((up_at (by omega)).trans (congrArg (Value.int .i64) (by  omega)))), (by show (up (up (f) (o + i * 2) (.int .i64 ((K0 : Int)))) (o + i * 2 + 1) (.string y1)) (o + i * 2 + 1) = .string (sr.mark (K0 + 1)); exact (up_at (by omega)).trans (congrArg Value.string (HY1.out.symm.trans (congrArg sr.mark (by  omega)))))⟩
   have HEA : Hid (∀ (j : Nat) (y : Ge), l[j]? = some y → E1Ge (s j) (e j) (w1.setCell ⟨b, o + i * 2 + 1, none⟩ (.string y1)) (fun r => (up (up (f) (o + i * 2) (.int .i64 ((K0 : Int)))) (o + i * 2 + 1) (.string y1)) (o + j * 2 + r)) (if j < i + 1 then mk1Ge (k0 + cnkGe l j) y else y)) := fun j y hy => by
    by_cases hji : j = i
    ·subst hji
     have hxy : x = y := Option.some.inj (HX.out.symm.trans hy)
     rw [if_pos (by omega), HKK.out, ← hxy]
     exact HEN.out
    ·have hold := HEL.out j y hy
     rw [show (if j < i + 1 then mk1Ge (k0 + cnkGe l j) y else y) = (if j < i then mk1Ge (k0 + cnkGe l j) y else y) by by_cases hj2 : j < i <;> simp [hj2] <;> omega]
     have hjl := (List.getElem?_eq_some_iff.1 hy).1
     have hil : i < l.length := by rw [HN.out]; exact h
     obtain ⟨u1, u2, u3, _⟩ := HEZ.out j y hy
     have hdj : e i ≤ s j ∨ e j ≤ s i := by
      rcases Nat.lt_or_ge j i with h9 | h9
      ·exact (HDI.out j i h9 hil).symm
      ·exact HDI.out i j (by omega) hjl
     exact hold.kept (fun r hr => (by show (up (up (f) (o + i * 2) (.int .i64 ((K0 : Int)))) (o + i * 2 + 1) (.string y1)) (o + j * 2 + r) = f (o + j * 2 + r); exact (up_oth (by omega)).trans ((up_oth (by omega)).trans (rfl)))) (fun p p1 p2 => HF3.out.2.2 p (by omega) (by omega) (by omega))
   have HME : Hid (Md lo hi w (w1.setCell ⟨b, o + i * 2 + 1, none⟩ (.string y1))) := HMD.out.trans (HF3.out.to hl hh hs1 hs2)
   clear q0 q1
   go_wp2
   go_roundw
   case rel => exact ⟨i + 1, _, by omega, by go_num, by (rw [HSU.out]; unfold cn1Ge;  have := HKK.out; go_num), HR3.out, HEA.out, HME.out⟩
   case measure => simp [intOf]; omega
  ·have h' : ¬ (i : Int) < (n : Int) := by omega
   obtain rfl : i = n := by omega
   have HE : Hid (cnkGe l i = cnGe l) := by show _ = _; unfold cnGe; rw [HN.out]
   rw [HE.out]
   have HGE : Hid (GGe lo hi wr (some ⟨b, o, none⟩) (mkGe k0 l)) := ⟨b, o, t, N, f, s, e, rfl, hl, hh, HRW.out, by rw [mkGe_len, HN.out]; exact hN, fun j y hy => by
    obtain ⟨x, hx, rfl⟩ := mkGe_of hy
    obtain ⟨u1, u2, u3, _⟩ := HEZ.out j x hx
    have := HEL.out j x hx
    rw [if_pos (by have := (List.getElem?_eq_some_iff.1 hx).1; have := HN.out; omega)] at this
    exact ⟨u1, u2, u3, this⟩, fun p q h1 h2 => HDI.out p q h1 (by rw [mkGe_len] at h2; exact h2)⟩
   go_wp2
   go_ret
   exact ⟨rfl, HGE.out, HMD.out⟩
theorem heldGe_any (a : Option Addr) (c : Nat) (l : List Ge) (k0 : Nat) (w : World) (hR : SrcGe none w a (mkGe k0 l)) (h0 : 0 < k0) (hk : k0 + cnGe l ≤ 100000000) :
  Calls Tryz.prog 89 #[.slice a l.length c, .int .i64 (k0 : Int)] w fun e w' => e = .returned (.int .i64 ((k0 + cnGe l : Nat) : Int)) ∧ Below w.heap.size w w' := by
 have HER := Lib.hid hR
 have HCL := Lib.hid (cnkGe_le l)
 have HKL : Hid (k0 + cnGe l ≤ 100000000) := hk
 obtain ⟨n, hn⟩ : ∃ n, l.length = n := ⟨_, rfl⟩
 have HNN : Hid (l.length = n) := hn
 have hn9 : n ≤ 100000000 := by have h1 := cnGe_len l; have h2 := HKL.out; omega
 rw [hn]
 clear hR hn hk
 go_enter Tryz.func89, Tryz.ntmps89
 go_wp2
 go_loopw [1, 5] (fun v x wr => ∃ (i : Nat), i ≤ n ∧ x = .int .i64 (i : Int) ∧ v = .int .i64 ((k0 + cnkGe l i : Nat) : Int) ∧ Below w.heap.size w wr) (fun _ x _ => n - (intOf x).toNat)
 case atStart => exact ⟨0, Nat.zero_le _, rfl, by simp [cnkGe], Below.refl _ _⟩
 case round =>
  obtain ⟨i, hi, rfl, rfl, hbel⟩ := hrel
  have HBB : Hid (Below w.heap.size w wr) := hbel
  clear hbel
  by_cases h : i < n
  ·have h' : (i : Int) < (n : Int) := by omega
   have hi0 : (0 : Int) ≤ (i : Int) := by omega
   obtain ⟨x, hx⟩ : ∃ x, l[i]? = some x := ⟨_, List.getElem?_eq_getElem (by rw [HNN.out]; exact h)⟩
   have HX : Hid (l[i]? = some x) := hx
   have HSU := Lib.hid (cnkGe_succ hx)
   rcases HER.out with he | ⟨b, o, rfl, _, hc⟩
   ·have := congrArg List.length he.2; rw [mkGe_len, HNN.out] at this; simp at this; omega
   have hcx := hc i _ (mkGe_at hx)
   obtain ⟨K0, hK0⟩ : ∃ K : Nat, k0 + cnkGe l i = K := ⟨_, rfl⟩
   rw [hK0] at hcx
   have HKK : Hid (k0 + cnkGe l i = K0) := hK0
   have HCB : Hid (K0 + cn1Ge x ≤ 100000000) := by
    show _ ≤ _
    have h1 := HCL.out (i + 1)
    have h2 := HKL.out
    have h3 := HSU.out
    omega
   have hK0b : K0 ≤ 100000000 := by have := HCB.out; omega
   have hK0c : K0 + 2 ≤ 100000000 := by have h9 := HCB.out; unfold cn1Ge at h9; omega
   have hK0p : 0 < K0 := by omega
   rw [hK0]
   obtain ⟨e0, e1⟩ := hcx
   have HC : Hid (∀ W, Below w.heap.size w W → W.cell? ⟨b, o + i * 2, none⟩ = some (.int .i64 (((K0 : Nat)) : Int)) ∧ W.cell? ⟨b, o + i * 2 + 1, none⟩ = some (.string (sr.mark (K0 + 1)))) := fun W hW => by
    have kk : ∀ {p v}, w.cell? ⟨b, p, none⟩ = some v → W.cell? ⟨b, p, none⟩ = some v := fun {p v} h => (hW.cell (p := ⟨b, p, none⟩) (World.block_lt_of_cell? _ _ h)).trans h
    exact ⟨kk e0, kk e1⟩

   obtain ⟨y1, hy1⟩ : ∃ y, sr.mark (K0 + 1) = y := ⟨_, rfl⟩
   have HY1 : Hid (sr.mark (K0 + 1) = y1) := hy1
   rw [hy1] at HC
   clear hy1
   clear hK0 hx hc e0 e1 
   have dd0 : wr.cell? ⟨b, o + i * 2, none⟩ = some (.int .i64 ((K0 : Int))) := by have := (HC.out wr HBB.out).1; rwa [show ((K0 : Nat) : Int) = (K0 : Int) by  omega] at this
   have HM1 : Hid (∀ W, Calls Tryz.prog 40 #[.int .i64 ((K0 : Int) + 1)] W fun e w' => e = .returned (.string y1) ∧ Below W.heap.size W w') := fun W => by
    have := sr.mark_any (K0 + 1) (by omega) (by omega) W
    rw [show ((K0 + 1 : Nat) : Int) = (K0 : Int) + 1 by omega] at this
    rwa [show sr.mark (K0 + 1) = y1 from (congrArg sr.mark (by  omega)).trans HY1.out] at this
   have HCd1 : Hid (∀ W, Below w.heap.size w W → W.cell? ⟨b, o + i * 2 + 1, none⟩ = some (.string y1)) := fun W hW => (HC.out W hW).2
   have dd1 := HCd1.out wr HBB.out
   go_wp2_with fail
   go_region_held3 (fun w' => w'.cell? ⟨b, o + i * 2 + 1, none⟩ = some (.string y1))
    (first | go_keep | exact HCd1.out _ (HBB.out.drew.trans (hb1.mono HBB.out.size)))
    (first | ((go_at_call 40; refine (HM1.out _).mono ?_; rintro e w1 ⟨rfl, hb1⟩)))
   have HB1 : Hid (Below w.heap.size w w1) := HBB.out.drew.trans (hb1.mono HBB.out.size)
   clear hb1 dd1 dd0
   go_wp2_with fail
   go_roundw
   case rel => exact ⟨i + 1, by omega, by go_num, by (rw [HSU.out]; unfold cn1Ge;  have := HKK.out; go_num), HB1.out⟩
   case measure => simp [intOf]; omega
  ·have h' : ¬ (i : Int) < (n : Int) := by omega
   obtain rfl : i = n := by omega
   have HE : Hid (cnkGe l i = cnGe l) := by show _ = _; unfold cnGe; rw [HNN.out]
   rw [HE.out]
   go_wp2
   go_ret
   exact ⟨rfl, HBB.out⟩
def mk1Pr (k : Nat) (x : Pr) : Pr := ⟨sr.mark (k), ((k + 1 : Nat) : Int), mkGe (k + 2) x.fGens⟩
def mkPr (k : Nat) (l : List Pr) : List Pr := l.mapIdx fun i x => mk1Pr (k + cnkPr l i) x
theorem mkPr_len (k : Nat) (l : List Pr) : (mkPr k l).length = l.length := by simp [mkPr]
theorem mkPr_at {k : Nat} {l : List Pr} {i : Nat} {x : Pr} (h : l[i]? = some x) : (mkPr k l)[i]? = some (mk1Pr (k + cnkPr l i) x) := by simp [mkPr, h]
theorem mkPr_of {k : Nat} {l : List Pr} {i : Nat} {y : Pr} (h : (mkPr k l)[i]? = some y) : ∃ x, l[i]? = some x ∧ y = mk1Pr (k + cnkPr l i) x := by
 have hi := (List.getElem?_eq_some_iff.1 h).1
 rw [mkPr_len] at hi
 have hx := List.getElem?_eq_getElem hi
 rw [mkPr_at hx] at h
 exact ⟨_, hx, (Option.some.inj h).symm⟩
def E1Pr (lo hi : Nat) (w : World) (g : Nat → Value) (x : Pr) : Prop := ∃ a2 c2 s2 e2, g 0 = .string x.fName ∧ g 1 = .int .i64 x.fNow ∧ g 2 = .slice a2 x.fGens.length c2 ∧ (GGe s2 e2 w a2 x.fGens ∧ lo ≤ s2 ∧ e2 ≤ hi)
theorem E1Pr.kept {lo hi : Nat} {w w' : World} {g g' : Nat → Value} {x : Pr} (h : E1Pr lo hi w g x) (hg : ∀ r, r < 3 → g' r = g r) (hk : ∀ p, lo ≤ p → p < hi → w'.heap[p]? = w.heap[p]?) : E1Pr lo hi w' g' x := by
 obtain ⟨a2, c2, s2, e2, q0, q1, q2, ⟨G2, b2, t2⟩⟩ := h
 exact ⟨a2, c2, s2, e2, (hg 0 (by omega)).trans q0, (hg 1 (by omega)).trans q1, (hg 2 (by omega)).trans q2, ⟨G2.kept (fun p h1 h2 => hk p (by omega) (by omega)), b2, t2⟩⟩
def GPr (lo hi : Nat) (w : World) (a : Option Addr) (l : List Pr) : Prop := ∃ b o t N f, ∃ s e : Nat → Nat, a = some ⟨b, o, none⟩ ∧ lo ≤ b ∧ b < hi ∧ w.rowIs b t N f ∧ o + l.length * 3 ≤ N ∧ (∀ (i : Nat) (x : Pr), l[i]? = some x → lo ≤ s i ∧ e i ≤ hi ∧ (b < s i ∨ e i ≤ b) ∧ E1Pr (s i) (e i) w (fun r => f (o + i * 3 + r)) x) ∧ (∀ i j, i < j → j < l.length → e i ≤ s j ∨ e j ≤ s i)
theorem GPr.kept {lo hi : Nat} {w w' : World} {a : Option Addr} {l : List Pr} (h : GPr lo hi w a l) (hk : ∀ p, lo ≤ p → p < hi → w'.heap[p]? = w.heap[p]?) : GPr lo hi w' a l := by
 obtain ⟨b, o, t, N, f, s, e, h0, h1, h2, h3, h4, h5, h6⟩ := h
 exact ⟨b, o, t, N, f, s, e, h0, h1, h2, h3.of_block (hk b h1 h2), h4, fun i x hx => by
  obtain ⟨k1, k2, k3, k4⟩ := h5 i x hx
  exact ⟨k1, k2, k3, k4.kept (fun _ _ => rfl) fun p g1 g2 => hk p (by omega) (by omega)⟩, h6⟩
theorem GPr.src {lo hi : Nat} {w : World} {a : Option Addr} {l : List Pr} (h : GPr lo hi w a l) : SrcPr none w a l := by
 obtain ⟨b, o, t, N, f, s, e, h0, h1, h2, h3, h4, h5, h6⟩ := h
 refine .inr ⟨b, o, h0, Okb.free _ _, fun i x hx => ?_⟩
 have hi := (List.getElem?_eq_some_iff.1 hx).1
 obtain ⟨k1, k2, k3, k4⟩ := h5 i x hx
 obtain ⟨a2, c2, s2, e2, q0, q1, q2, ⟨G2, b2, t2⟩⟩ := k4
 exact ⟨a2, c2, (h3.cell (i := o + i * 3) (by omega)).trans (congrArg some q0), (h3.cell (i := o + i * 3 + 1) (by omega)).trans (congrArg some q1), (h3.cell (i := o + i * 3 + 2) (by omega)).trans (congrArg some q2), G2.src, (fun lo h => by cases h)⟩
theorem markGPr_any (lo hi : Nat) (a : Option Addr) (c : Nat) (l : List Pr) (k0 : Nat) (w : World) (hG : GPr lo hi w a l) (hhi : hi ≤ w.heap.size) (h0 : 0 < k0) (hk : k0 + cnPr l ≤ 100000000) :
  Calls Tryz.prog 37 #[.slice a l.length c, .int .i64 (k0 : Int)] w fun e w' => e = .returned (.int .i64 ((k0 + cnPr l : Nat) : Int)) ∧ GPr lo hi w' a (mkPr k0 l) ∧ Md lo hi w w' := by
 obtain ⟨b, o, t, N, f0, s, e, rfl, hl, hh, hrow, hN, hel, hdis⟩ := hG
 have HRZ : Hid (w.rowIs b t N f0) := hrow
 have HEZ := Lib.hid hel
 have HDI := Lib.hid hdis
 have HCL := Lib.hid (cnkPr_le l)
 have HKL : Hid (k0 + cnPr l ≤ 100000000) := hk
 clear hrow hel hdis hk
 obtain ⟨n, hn⟩ : ∃ n, l.length = n := ⟨_, rfl⟩
 have HN : Hid (l.length = n) := hn
 have hn9 : n ≤ 100000000 := by have h1 := cnPr_len l; have h2 := HKL.out; omega
 rw [hn] at hN ⊢
 clear hn
 go_enter Tryz.func37, Tryz.ntmps37
 go_wp2
 go_loopw [1, 5] (fun a x wr => ∃ (i : Nat) (f : Nat → Value), i ≤ n ∧ x = .int .i64 (i : Int) ∧ a = .int .i64 ((k0 + cnkPr l i : Nat) : Int) ∧ wr.rowIs b t N f ∧ (∀ (j : Nat) (y : Pr), l[j]? = some y → E1Pr (s j) (e j) wr (fun r => f (o + j * 3 + r)) (if j < i then mk1Pr (k0 + cnkPr l j) y else y)) ∧ Md lo hi w wr) (fun _ x _ => n - (intOf x).toNat)
 case atStart => exact ⟨0, f0, Nat.zero_le _, rfl, by simp [cnkPr], HRZ.out, fun j y hy => (HEZ.out j y hy).2.2.2, Md.refl _ _ _⟩
 case round =>
  obtain ⟨i, f, hi', rfl, rfl, hrow, hel, hmd⟩ := hrel
  have HRW : Hid (wr.rowIs b t N f) := hrow
  have HEL := Lib.hid hel
  have HMD : Hid (Md lo hi w wr) := hmd
  have hhr : hi ≤ wr.heap.size := by have := hmd.2.1; omega
  clear hrow hel hmd
  by_cases h : i < n
  ·have h' : (i : Int) < (n : Int) := by omega
   have hi0 : (0 : Int) ≤ (i : Int) := by omega
   obtain ⟨x, hx⟩ : ∃ x, l[i]? = some x := ⟨_, List.getElem?_eq_getElem (by rw [HN.out]; exact h)⟩
   have HX : Hid (l[i]? = some x) := hx
   have HSU := Lib.hid (cnkPr_succ hx)
   obtain ⟨hs1, hs2, hs3, _⟩ := HEZ.out i x hx
   have hE := HEL.out i x hx
   rw [if_neg (Nat.lt_irrefl i)] at hE
   obtain ⟨a2, c2, s2, e2, q0, q1, q2, ⟨G2, b2, t2⟩⟩ := hE
   have q0 : f (o + i * 3 + 0) = .string x.fName := q0
   have q1 : f (o + i * 3 + 1) = .int .i64 x.fNow := q1
   have q2 : f (o + i * 3 + 2) = .slice a2 x.fGens.length c2 := q2
   have HG2_0 : Hid (GGe s2 e2 wr a2 x.fGens) := G2
   have HF0 : Hid (Fr b (s i) (e i) wr wr) := Fr.refl _ _ _ _
   obtain ⟨K0, hK0⟩ : ∃ K : Nat, k0 + cnkPr l i = K := ⟨_, rfl⟩
   have HKK : Hid (k0 + cnkPr l i = K0) := hK0
   have HCB : Hid (K0 + cn1Pr x ≤ 100000000) := by
    show _ ≤ _
    have h1 := HCL.out (i + 1)
    have h2 := HKL.out
    have h3 := HSU.out
    omega
   have hK0b : K0 ≤ 100000000 := by have := HCB.out; omega
   have hK0c : K0 + 2 ≤ 100000000 := by have h9 := HCB.out; unfold cn1Pr at h9; omega
   have hK0p : 0 < K0 := by omega
   rw [hK0]
   clear hK0 hx
   have HM0 : Hid (∀ W, Calls Tryz.prog 40 #[.int .i64 ((K0 : Int))] W fun e w' => e = .returned (.string (sr.mark (K0))) ∧ Below W.heap.size W w') := fun W => by
    have := sr.mark_any (K0) (by omega) (by omega) W
    rwa [show ((K0 : Nat) : Int) = (K0 : Int) by omega] at this
   obtain ⟨y0, hy0⟩ : ∃ y, sr.mark (K0) = y := ⟨_, rfl⟩
   have HY0 : Hid (sr.mark (K0) = y0) := hy0
   rw [hy0] at HM0
   clear hy0
   go_wp2_with (go_at_call 40; refine (HM0.out _).mono ?_; rintro e w0 ⟨rfl, hb⟩; refine Hid.out ?_)
   refine Lib.hid ?_
   have HR1 : Hid (w0.rowIs b t N (f)) := HRW.out.of_block (hb.block b HRW.out.lt)
   have HF1 : Hid (Fr b (s i) (e i) wr w0) := HF0.out.below hb
   have HG2_1 : Hid (GGe s2 e2 w0 a2 (x.fGens)) := HG2_0.out.kept (kp_below (b := b) (s := s2) (e := e2) (cur := wr) (fun p hp => rfl) (Nat.le_refl _) hb (by have := HF0.out.2.1; omega) (by omega))
   clear hb HM0 
   have g0 := HR1.out.cell (i := o + i * 3) (by omega)
   have z0 := HR1.out.frozen (o + i * 3)
   have HR2 : Hid ((w0.setCell ⟨b, o + i * 3, none⟩ (.string y0)).rowIs b t N (up (f) (o + i * 3) (.string y0))) := row_up HR1.out _ _
   have HF2 : Hid (Fr b (s i) (e i) wr (w0.setCell ⟨b, o + i * 3, none⟩ (.string y0))) := HF1.out.set _ _
   have g1 := HR1.out.cell (i := o + i * 3 + 1) (by omega)
   have z1 := HR1.out.frozen (o + i * 3 + 1)
   have HR3 : Hid (((w0.setCell ⟨b, o + i * 3, none⟩ (.string y0)).setCell ⟨b, o + i * 3 + 1, none⟩ (.int .i64 ((K0 : Int) + 1))).rowIs b t N (up (up (f) (o + i * 3) (.string y0)) (o + i * 3 + 1) (.int .i64 ((K0 : Int) + 1)))) := row_up HR2.out _ _
   have HF3 : Hid (Fr b (s i) (e i) wr ((w0.setCell ⟨b, o + i * 3, none⟩ (.string y0)).setCell ⟨b, o + i * 3 + 1, none⟩ (.int .i64 ((K0 : Int) + 1)))) := HF2.out.set _ _
   have HM2 : Hid (∀ W, GGe s2 e2 W a2 x.fGens → e2 ≤ W.heap.size → Calls Tryz.prog 81 #[.slice a2 x.fGens.length c2, .int .i64 ((K0 : Int) + 1 + 1)] W fun e w' => e = .returned (.int .i64 ((K0 + 2 + cnGe x.fGens : Nat) : Int)) ∧ GGe s2 e2 w' a2 (mkGe (K0 + 2) x.fGens) ∧ Md s2 e2 W w') := fun W h hz => by
    have := markGGe_any s2 e2 a2 c2 x.fGens (K0 + 2) W h hz (by omega) (by have h9 := HCB.out;  unfold cn1Pr at h9; omega)
    rwa [show ((K0 + 2 : Nat) : Int) = (K0 : Int) + 1 + 1 by omega] at this
   have g2 := HR1.out.cell (i := o + i * 3 + 2) (by omega)
   rw [show _ = Value.slice a2 x.fGens.length c2 from q2] at g2
   obtain ⟨z2, hz2⟩ : ∃ z, x.fGens.length = z := ⟨_, rfl⟩
   obtain ⟨K3, hK3⟩ : ∃ z : Nat, K0 + 2 + cnGe x.fGens = z := ⟨_, rfl⟩
   have HK3 := Lib.hid hK3
   have hKb3 : K3 ≤ 100000000 ∧ 0 < K3 := ⟨by have h9 := HCB.out;  unfold cn1Pr at h9; omega, by omega⟩
   have HZ2 : Hid (x.fGens.length = z2) := hz2
   rw [hK3, hz2] at HM2
   rw [hz2] at g2
   clear hK3 hz2
   have HGX2 : Hid (GGe s2 e2 ((w0.setCell ⟨b, o + i * 3, none⟩ (.string y0)).setCell ⟨b, o + i * 3 + 1, none⟩ (.int .i64 ((K0 : Int) + 1))) a2 x.fGens) := HG2_1.out.kept (fun p h1 h2 => (fun p hp => (sb hp).trans ((sb hp).trans (rfl))) p (by omega))
   have HZX2 : Hid (e2 ≤ (((w0.setCell ⟨b, o + i * 3, none⟩ (.string y0)).setCell ⟨b, o + i * 3 + 1, none⟩ (.int .i64 ((K0 : Int) + 1)))).heap.size) := by have h9 := HF3.out.2.1; show _ ≤ _; omega
   go_wp2_with (go_at_call 81; refine (HM2.out _ HGX2.out HZX2.out).mono ?_; rintro e w2 ⟨rfl, hgn, hb⟩; refine Hid.out ?_)
   refine Lib.hid ?_
   have HGN2 := Lib.hid hgn
   have HR5 : Hid (w2.rowIs b t N (up (up (f) (o + i * 3) (.string y0)) (o + i * 3 + 1) (.int .i64 ((K0 : Int) + 1)))) := HR3.out.of_block (hb.2.2 b HR3.out.lt (by omega))
   have HF5 : Hid (Fr b (s i) (e i) wr w2) := HF3.out.md hb (by omega) (by omega)
   clear hb hgn HM2 g2 g0 z0 g1 z1
   have HEN : Hid (E1Pr (s i) (e i) w2 (fun r => (up (up (f) (o + i * 3) (.string y0)) (o + i * 3 + 1) (.int .i64 ((K0 : Int) + 1))) (o + i * 3 + r)) (mk1Pr K0 x)) := ⟨a2, c2, s2, e2, (by show (up (up (f) (o + i * 3) (.string y0)) (o + i * 3 + 1) (.int .i64 ((K0 : Int) + 1))) (o + i * 3 + 0) = .string (sr.mark (K0)); exact (up_oth (by omega)).trans ((up_at (by omega)).trans (congrArg Value.string (HY0.out.symm.trans (congrArg sr.mark (by  omega)))))), (by show (up (up (f) (o + i * 3) (.string y0)) (o + i * 3 + 1) (.int .i64 ((K0 : Int) + 1))) (o + i * 3 + 1) = .int .i64 (((K0 + 1 : Nat)) : Int); exact (up_at (by omega)).trans (congrArg (Value.int .i64) (by  omega))), (by show (up (up (f) (o + i * 3) (.string y0)) (o + i * 3 + 1) (.int .i64 ((K0 : Int) + 1))) (o + i * 3 + 2) = .slice a2 (mkGe (K0 + 2) x.fGens).length c2; rw [mkGe_len]; exact (up_oth (by omega)).trans ((up_oth (by omega)).trans (q2))), ⟨by have h9 := HGN2.out; rw [show K0 + 2 = K0 + 2 by  omega] at h9; exact h9.kept (fun p h1 h2 => (fun p hp => rfl) p (by omega)), b2, t2⟩⟩
   have HEA : Hid (∀ (j : Nat) (y : Pr), l[j]? = some y → E1Pr (s j) (e j) w2 (fun r => (up (up (f) (o + i * 3) (.string y0)) (o + i * 3 + 1) (.int .i64 ((K0 : Int) + 1))) (o + j * 3 + r)) (if j < i + 1 then mk1Pr (k0 + cnkPr l j) y else y)) := fun j y hy => by
    by_cases hji : j = i
    ·subst hji
     have hxy : x = y := Option.some.inj (HX.out.symm.trans hy)
     rw [if_pos (by omega), HKK.out, ← hxy]
     exact HEN.out
    ·have hold := HEL.out j y hy
     rw [show (if j < i + 1 then mk1Pr (k0 + cnkPr l j) y else y) = (if j < i then mk1Pr (k0 + cnkPr l j) y else y) by by_cases hj2 : j < i <;> simp [hj2] <;> omega]
     have hjl := (List.getElem?_eq_some_iff.1 hy).1
     have hil : i < l.length := by rw [HN.out]; exact h
     obtain ⟨u1, u2, u3, _⟩ := HEZ.out j y hy
     have hdj : e i ≤ s j ∨ e j ≤ s i := by
      rcases Nat.lt_or_ge j i with h9 | h9
      ·exact (HDI.out j i h9 hil).symm
      ·exact HDI.out i j (by omega) hjl
     exact hold.kept (fun r hr => (by show (up (up (f) (o + i * 3) (.string y0)) (o + i * 3 + 1) (.int .i64 ((K0 : Int) + 1))) (o + j * 3 + r) = f (o + j * 3 + r); exact (up_oth (by omega)).trans ((up_oth (by omega)).trans (rfl)))) (fun p p1 p2 => HF5.out.2.2 p (by omega) (by omega) (by omega))
   have HME : Hid (Md lo hi w w2) := HMD.out.trans (HF5.out.to hl hh hs1 hs2)
   clear q0 q1 q2
   go_wp2
   go_roundw
   case rel => exact ⟨i + 1, _, by omega, by go_num, by (rw [HSU.out]; unfold cn1Pr; have := HK3.out; have := HKK.out; go_num), HR5.out, HEA.out, HME.out⟩
   case measure => simp [intOf]; omega
  ·have h' : ¬ (i : Int) < (n : Int) := by omega
   obtain rfl : i = n := by omega
   have HE : Hid (cnkPr l i = cnPr l) := by show _ = _; unfold cnPr; rw [HN.out]
   rw [HE.out]
   have HGE : Hid (GPr lo hi wr (some ⟨b, o, none⟩) (mkPr k0 l)) := ⟨b, o, t, N, f, s, e, rfl, hl, hh, HRW.out, by rw [mkPr_len, HN.out]; exact hN, fun j y hy => by
    obtain ⟨x, hx, rfl⟩ := mkPr_of hy
    obtain ⟨u1, u2, u3, _⟩ := HEZ.out j x hx
    have := HEL.out j x hx
    rw [if_pos (by have := (List.getElem?_eq_some_iff.1 hx).1; have := HN.out; omega)] at this
    exact ⟨u1, u2, u3, this⟩, fun p q h1 h2 => HDI.out p q h1 (by rw [mkPr_len] at h2; exact h2)⟩
   go_wp2
   go_ret
   exact ⟨rfl, HGE.out, HMD.out⟩
theorem heldPr_any (a : Option Addr) (c : Nat) (l : List Pr) (k0 : Nat) (w : World) (hR : SrcPr none w a (mkPr k0 l)) (h0 : 0 < k0) (hk : k0 + cnPr l ≤ 100000000) :
  Calls Tryz.prog 44 #[.slice a l.length c, .int .i64 (k0 : Int)] w fun e w' => e = .returned (.int .i64 ((k0 + cnPr l : Nat) : Int)) ∧ Below w.heap.size w w' := by
 have HER := Lib.hid hR
 have HCL := Lib.hid (cnkPr_le l)
 have HKL : Hid (k0 + cnPr l ≤ 100000000) := hk
 obtain ⟨n, hn⟩ : ∃ n, l.length = n := ⟨_, rfl⟩
 have HNN : Hid (l.length = n) := hn
 have hn9 : n ≤ 100000000 := by have h1 := cnPr_len l; have h2 := HKL.out; omega
 rw [hn]
 clear hR hn hk
 go_enter Tryz.func44, Tryz.ntmps44
 go_wp2
 go_loopw [1, 5] (fun v x wr => ∃ (i : Nat), i ≤ n ∧ x = .int .i64 (i : Int) ∧ v = .int .i64 ((k0 + cnkPr l i : Nat) : Int) ∧ Below w.heap.size w wr) (fun _ x _ => n - (intOf x).toNat)
 case atStart => exact ⟨0, Nat.zero_le _, rfl, by simp [cnkPr], Below.refl _ _⟩
 case round =>
  obtain ⟨i, hi, rfl, rfl, hbel⟩ := hrel
  have HBB : Hid (Below w.heap.size w wr) := hbel
  clear hbel
  by_cases h : i < n
  ·have h' : (i : Int) < (n : Int) := by omega
   have hi0 : (0 : Int) ≤ (i : Int) := by omega
   obtain ⟨x, hx⟩ : ∃ x, l[i]? = some x := ⟨_, List.getElem?_eq_getElem (by rw [HNN.out]; exact h)⟩
   have HX : Hid (l[i]? = some x) := hx
   have HSU := Lib.hid (cnkPr_succ hx)
   rcases HER.out with he | ⟨b, o, rfl, _, hc⟩
   ·have := congrArg List.length he.2; rw [mkPr_len, HNN.out] at this; simp at this; omega
   have hcx := hc i _ (mkPr_at hx)
   obtain ⟨K0, hK0⟩ : ∃ K : Nat, k0 + cnkPr l i = K := ⟨_, rfl⟩
   rw [hK0] at hcx
   have HKK : Hid (k0 + cnkPr l i = K0) := hK0
   have HCB : Hid (K0 + cn1Pr x ≤ 100000000) := by
    show _ ≤ _
    have h1 := HCL.out (i + 1)
    have h2 := HKL.out
    have h3 := HSU.out
    omega
   have hK0b : K0 ≤ 100000000 := by have := HCB.out; omega
   have hK0c : K0 + 2 ≤ 100000000 := by have h9 := HCB.out; unfold cn1Pr at h9; omega
   have hK0p : 0 < K0 := by omega
   rw [hK0]
   obtain ⟨a2, c2, e0, e1, e2, r2, _⟩ := hcx
   have HC : Hid (∀ W, Below w.heap.size w W → W.cell? ⟨b, o + i * 3, none⟩ = some (.string (sr.mark (K0))) ∧ W.cell? ⟨b, o + i * 3 + 1, none⟩ = some (.int .i64 (((K0 + 1 : Nat)) : Int)) ∧ W.cell? ⟨b, o + i * 3 + 2, none⟩ = some (.slice a2 x.fGens.length c2)) := fun W hW => by
    have kk : ∀ {p v}, w.cell? ⟨b, p, none⟩ = some v → W.cell? ⟨b, p, none⟩ = some v := fun {p v} h => (hW.cell (p := ⟨b, p, none⟩) (World.block_lt_of_cell? _ _ h)).trans h
    exact ⟨kk e0, kk e1, (kk e2).trans (by show some (Value.slice a2 (mkGe _ _).length c2) = _; rw [mkGe_len])⟩
   have HS2 : Hid (∀ W, Below w.heap.size w W → SrcGe none W a2 (mkGe (K0 + 2) x.fGens)) := fun W hW => r2.below hW
   obtain ⟨y0, hy0⟩ : ∃ y, sr.mark (K0) = y := ⟨_, rfl⟩
   have HY0 : Hid (sr.mark (K0) = y0) := hy0
   rw [hy0] at HC
   clear hy0
   clear hK0 hx hc e0 e1 e2 r2
   have HM0 : Hid (∀ W, Calls Tryz.prog 40 #[.int .i64 ((K0 : Int))] W fun e w' => e = .returned (.string y0) ∧ Below W.heap.size W w') := fun W => by
    have := sr.mark_any (K0) (by omega) (by omega) W
    rw [show ((K0 : Nat) : Int) = (K0 : Int) by omega] at this
    rwa [show sr.mark (K0) = y0 from (congrArg sr.mark (by  omega)).trans HY0.out] at this
   have HCd0 : Hid (∀ W, Below w.heap.size w W → W.cell? ⟨b, o + i * 3, none⟩ = some (.string y0)) := fun W hW => (HC.out W hW).1
   have dd0 := HCd0.out wr HBB.out
   go_wp2_with fail
   go_region_held3 (fun w' => w'.cell? ⟨b, o + i * 3, none⟩ = some (.string y0))
    (first | go_keep | exact HCd0.out _ (HBB.out.drew.trans (hb1.mono HBB.out.size)))
    (first | ((go_at_call 40; refine (HM0.out _).mono ?_; rintro e w0 ⟨rfl, hb1⟩)))
   have HB0 : Hid (Below w.heap.size w w0) := HBB.out.drew.trans (hb1.mono HBB.out.size)
   clear hb1 dd0 
   have dd1 : w0.cell? ⟨b, o + i * 3 + 1, none⟩ = some (.int .i64 ((K0 : Int) + 1)) := by have := (HC.out w0 HB0.out).2.1; rwa [show ((K0 + 1 : Nat) : Int) = (K0 : Int) + 1 by  omega] at this
   have HM2 : Hid (∀ W, Below w.heap.size w W → Calls Tryz.prog 89 #[.slice a2 x.fGens.length c2, .int .i64 ((K0 : Int) + 1 + 1)] W fun e w' => e = .returned (.int .i64 ((K0 + 2 + cnGe x.fGens : Nat) : Int)) ∧ Below W.heap.size W w') := fun W hW => by
    have := heldGe_any a2 c2 x.fGens (K0 + 2) W (by have h9 := HS2.out W hW; rwa [show K0 + 2 = K0 + 2 by  omega] at h9) (by omega) (by have h9 := HCB.out;  unfold cn1Pr at h9; omega)
    rwa [show ((K0 + 2 : Nat) : Int) = (K0 : Int) + 1 + 1 by omega] at this
   have dd2 := (HC.out w0 HB0.out).2.2
   obtain ⟨z2, hz2⟩ : ∃ z, x.fGens.length = z := ⟨_, rfl⟩
   obtain ⟨K3, hK3⟩ : ∃ z : Nat, K0 + 2 + cnGe x.fGens = z := ⟨_, rfl⟩
   have HK3 := Lib.hid hK3
   have hKb3 : K3 ≤ 100000000 ∧ 0 < K3 := ⟨by have h9 := HCB.out;  unfold cn1Pr at h9; omega, by omega⟩
   have hng2 : ¬ (K3 : Int) < 0 := by omega
   rw [hK3, hz2] at HM2
   rw [hz2] at dd2
   clear hK3 hz2
   go_wp2_with (go_at_call 89; refine (HM2.out _ HB0.out).mono ?_; rintro e w2 ⟨rfl, hb1⟩; refine Hid.out ?_)
   refine Lib.hid ?_
   have HB2 : Hid (Below w.heap.size w w2) := HB0.out.trans (hb1.mono HB0.out.size)
   clear hb1 dd2 dd1
   go_wp2_with fail
   go_roundw
   case rel => exact ⟨i + 1, by omega, by go_num, by (rw [HSU.out]; unfold cn1Pr; have := HK3.out; have := HKK.out; go_num), HB2.out⟩
   case measure => simp [intOf]; omega
  ·have h' : ¬ (i : Int) < (n : Int) := by omega
   obtain rfl : i = n := by omega
   have HE : Hid (cnkPr l i = cnPr l) := by show _ = _; unfold cnPr; rw [HNN.out]
   rw [HE.out]
   go_wp2
   go_ret
   exact ⟨rfl, HBB.out⟩
def mk1Pe (k : Nat) (x : Pe) : Pe := ⟨sr.mark (k), mkEt (k + 1) x.fTree, sr.mark ((k + 1 + cnEt x.fTree))⟩
def mkPe (k : Nat) (l : List Pe) : List Pe := l.mapIdx fun i x => mk1Pe (k + cnkPe l i) x
def mk1Nx (k : Nat) (x : Nx) : Nx := ⟨sr.mark (k), sr.mark (k + 1)⟩
def mkNx (k : Nat) (l : List Nx) : List Nx := l.mapIdx fun i x => mk1Nx (k + cnkNx l i) x
end Go.Proofs.YtjbdklkingfmpaaGreatDoor.ty
