import Derived.Test.YtdddplhfhpghkaaG14
import Derived.Deep.RegionHeld3
import Derived.Test.YtdddplhfhpghkaaG13
import Derived.Maps.AppendAt
import Derived.Test.YtdddplhfhpghkaaG12
import Derived.Test.YtdddplhfhpghkaaG06
import Derived.Maps.Own
import Derived.Maps.OwnOps
import Derived.Maps.OwnSet
import Derived.Maps.Views
import Derived.Handy
namespace Go.Proofs.Ytdddplhfhpghkaa.ty
open Go.ChangeShapes Go.WideShapes Go.ChangeAt Go.RowKit Go.Deep
set_option linter.unusedVariables false
set_option linter.unusedSimpArgs false

/-! ### Answers that own their memory: marks and what is held -/

/-- Only blocks lo .. hi change. -/
def Md (lo hi : Nat) (w w' : World) : Prop := (w'.os = w.os ∧ w'.tape = w.tape ∧ w'.output = w.output) ∧ w.heap.size ≤ w'.heap.size ∧ ∀ j, j < w.heap.size → (j < lo ∨ hi ≤ j) → w'.heap[j]? = w.heap[j]?
theorem Md.refl (lo hi : Nat) (w : World) : Md lo hi w w := ⟨⟨rfl, rfl, rfl⟩, Nat.le_refl _, fun _ _ _ => rfl⟩
theorem Md.trans {lo hi : Nat} {A B C : World} (h : Md lo hi A B) (k : Md lo hi B C) : Md lo hi A C := ⟨⟨k.1.1.trans h.1.1, k.1.2.1.trans h.1.2.1, k.1.2.2.trans h.1.2.2⟩, Nat.le_trans h.2.1 k.2.1, fun j hj e => (k.2.2 j (Nat.lt_of_lt_of_le hj h.2.1) e).trans (h.2.2 j hj e)⟩
theorem Md.of_below {lo hi : Nat} {A B : World} (k : Below A.heap.size A B) : Md lo hi A B := ⟨⟨k.os, k.tape, k.output⟩, k.size, fun j hj _ => k.block j hj⟩
theorem Md.below {lo hi : Nat} {A B C : World} (h : Md lo hi A B) (k : Below B.heap.size B C) : Md lo hi A C := h.trans (.of_below k)
theorem Md.set {lo hi : Nat} {A B : World} (h : Md lo hi A B) {b p : Nat} (x : Value) (hl : lo ≤ b) (hh : b < hi) : Md lo hi A (B.setCell ⟨b, p, none⟩ x) :=
  h.trans ⟨⟨rfl, rfl, rfl⟩, by simp, fun j hj e => by simp only [World.setCell]; rw [Array.getElem?_modify, if_neg (by omega)]⟩
theorem Md.wide {lo hi lo' hi' : Nat} {A B : World} (h : Md lo hi A B) (h1 : lo' ≤ lo) (h2 : hi ≤ hi') : Md lo' hi' A B := ⟨h.1, h.2.1, fun j hj e => h.2.2 j hj (by omega)⟩
theorem Md.toBelow {lo hi B : Nat} {w w' : World} (h : Md lo hi w w') (hB : B ≤ lo) (hs : B ≤ w.heap.size) : Below B w w' := ⟨h.1.1, h.1.2.1, h.1.2.2, h.2.1, fun j hj => h.2.2 j (by omega) (.inl (by omega))⟩
/-- Only block b and blocks s .. e change. -/
def Fr (b s e : Nat) (w w' : World) : Prop := (w'.os = w.os ∧ w'.tape = w.tape ∧ w'.output = w.output) ∧ w.heap.size ≤ w'.heap.size ∧ ∀ j, j < w.heap.size → j ≠ b → (j < s ∨ e ≤ j) → w'.heap[j]? = w.heap[j]?
theorem Fr.refl (b s e : Nat) (w : World) : Fr b s e w w := ⟨⟨rfl, rfl, rfl⟩, Nat.le_refl _, fun _ _ _ _ => rfl⟩
theorem Fr.trans {b s e : Nat} {A B C : World} (h : Fr b s e A B) (k : Fr b s e B C) : Fr b s e A C := ⟨⟨k.1.1.trans h.1.1, k.1.2.1.trans h.1.2.1, k.1.2.2.trans h.1.2.2⟩, Nat.le_trans h.2.1 k.2.1, fun j hj e1 e2 => (k.2.2 j (Nat.lt_of_lt_of_le hj h.2.1) e1 e2).trans (h.2.2 j hj e1 e2)⟩
theorem Fr.below {b s e : Nat} {A B C : World} (h : Fr b s e A B) (k : Below B.heap.size B C) : Fr b s e A C := h.trans ⟨⟨k.os, k.tape, k.output⟩, k.size, fun j hj _ _ => k.block j hj⟩
theorem Fr.set {b s e : Nat} {A B : World} (h : Fr b s e A B) (p : Nat) (x : Value) : Fr b s e A (B.setCell ⟨b, p, none⟩ x) :=
  h.trans ⟨⟨rfl, rfl, rfl⟩, by simp, fun j hj e _ => by simp only [World.setCell]; rw [Array.getElem?_modify, if_neg (fun h => e h.symm)]⟩
theorem Fr.md {b s e s' e' : Nat} {A B C : World} (h : Fr b s e A B) (k : Md s' e' B C) (h1 : s ≤ s') (h2 : e' ≤ e) : Fr b s e A C := h.trans ⟨k.1, k.2.1, fun j hj _ e => k.2.2 j hj (by omega)⟩
theorem Fr.to {b s e lo hi : Nat} {A B : World} (h : Fr b s e A B) (h1 : lo ≤ b) (h2 : b < hi) (h3 : lo ≤ s) (h4 : e ≤ hi) : Md lo hi A B := ⟨h.1, h.2.1, fun j hj e => h.2.2 j hj (by omega) (by omega)⟩
theorem sb {W : World} {b p q : Nat} {v : Value} (h : q ≠ b) : (W.setCell ⟨b, p, none⟩ v).heap[q]? = W.heap[q]? := by simp only [World.setCell]; rw [Array.getElem?_modify, if_neg (fun e => h e.symm)]
theorem kp_below {b s e : Nat} {cur X w' : World} (hX : ∀ p, p ≠ b → X.heap[p]? = cur.heap[p]?) (hz : cur.heap.size ≤ X.heap.size) (hb : Below X.heap.size X w') (he : e ≤ cur.heap.size) (hbs : b < s ∨ e ≤ b) : ∀ p, s ≤ p → p < e → w'.heap[p]? = cur.heap[p]? :=
  fun p h1 h2 => (hb.block p (by omega)).trans (hX p (by omega))
theorem kp_md {b s e s' e' : Nat} {cur X w' : World} (hX : ∀ p, p ≠ b → X.heap[p]? = cur.heap[p]?) (hz : cur.heap.size ≤ X.heap.size) (hb : Md s' e' X w') (he : e ≤ cur.heap.size) (hbs : b < s ∨ e ≤ b) (hd : e ≤ s' ∨ e' ≤ s) : ∀ p, s ≤ p → p < e → w'.heap[p]? = cur.heap[p]? :=
  fun p h1 h2 => (hb.2.2 p (by omega) (by omega)).trans (hX p (by omega))
def up (f : Nat → Value) (p : Nat) (v : Value) : Nat → Value := fun j => if j = p then v else f j
theorem up_same (f : Nat → Value) (p : Nat) (v : Value) : up f p v p = v := by unfold up; rw [if_pos rfl]
theorem up_at {f : Nat → Value} {p q : Nat} {v : Value} (h : q = p) : up f p v q = v := by subst h; exact up_same _ _ _
theorem up_oth {f : Nat → Value} {p q : Nat} {v : Value} (h : q ≠ p) : up f p v q = f q := by unfold up; rw [if_neg h]
theorem row_up {w : World} {b t N : Nat} {f : Nat → Value} (h : w.rowIs b t N f) (p : Nat) (v : Value) : (w.setCell ⟨b, p, none⟩ v).rowIs b t N (up f p v) := h.set p v

/-- Texts. -/
def GS (lo hi : Nat) (w : World) (a : Option Addr) (l : List ByteArray) : Prop := ∃ b o t N f, a = some ⟨b, o, none⟩ ∧ lo ≤ b ∧ b < hi ∧ w.rowIs b t N f ∧ o + l.length ≤ N ∧ ∀ (i : Nat) (x : ByteArray), l[i]? = some x → f (o + i) = .string x
theorem GS.kept {lo hi : Nat} {w w' : World} {a : Option Addr} {l : List ByteArray} (h : GS lo hi w a l) (hk : ∀ p, lo ≤ p → p < hi → w'.heap[p]? = w.heap[p]?) : GS lo hi w' a l := by
  obtain ⟨b, o, t, N, f, e, h1, h2, h3, h4⟩ := h
  exact ⟨b, o, t, N, f, e, h1, h2, h3.of_block (hk b h1 h2), h4⟩
theorem GS.wide {lo hi lo' hi' : Nat} {w : World} {a : Option Addr} {l : List ByteArray} (h : GS lo hi w a l) (g1 : lo' ≤ lo) (g2 : hi ≤ hi') : GS lo' hi' w a l := by
  obtain ⟨b, o, t, N, f, e, h1, h2, h3, h4⟩ := h
  exact ⟨b, o, t, N, f, e, by omega, by omega, h3, h4⟩
theorem GS.src {lo hi : Nat} {w : World} {a : Option Addr} {l : List ByteArray} (h : GS lo hi w a l) : SrcS none w a l := by
  obtain ⟨b, o, t, N, f, e, h1, h2, h3, h4, h5⟩ := h
  refine .inr ⟨b, o, e, Okb.free _ _, fun i x hx => ?_⟩
  rw [h3.cell (i := o + i) (by have := (List.getElem?_eq_some_iff.1 hx).1; omega), h5 i x hx]
def mkS (k : Nat) (l : List ByteArray) : List ByteArray := l.mapIdx fun i _ => sr.mark (k + i)
theorem mkS_len (k : Nat) (l : List ByteArray) : (mkS k l).length = l.length := by simp [mkS]
theorem mkS_at {k : Nat} {l : List ByteArray} {i : Nat} {x : ByteArray} (h : l[i]? = some x) : (mkS k l)[i]? = some (sr.mark (k + i)) := by simp [mkS, h]
theorem mkS_of {k : Nat} {l : List ByteArray} {i : Nat} {y : ByteArray} (h : (mkS k l)[i]? = some y) : ∃ x, l[i]? = some x ∧ y = sr.mark (k + i) := by
  have hi := (List.getElem?_eq_some_iff.1 h).1
  rw [mkS_len] at hi
  have hx := List.getElem?_eq_getElem hi
  rw [mkS_at hx] at h
  exact ⟨_, hx, (Option.some.inj h).symm⟩

set_option maxRecDepth 100000 in
set_option maxHeartbeats 1000000 in
theorem markGS_any (lo hi : Nat) (a : Option Addr) (c : Nat) (l : List ByteArray) (k0 : Nat) (w : World) (hG : GS lo hi w a l) (hhi : hi ≤ w.heap.size) (h0 : 0 < k0) (hk : k0 + cnS l ≤ 100000000) :
    Calls Try.prog 13 #[.slice a l.length c, .int .i64 (k0 : Int)] w fun e w' => e = .returned (.int .i64 ((k0 + cnS l : Nat) : Int)) ∧ GS lo hi w' a (mkS k0 l) ∧ Md lo hi w w' := by
  obtain ⟨b, o, t, N, f0, rfl, hl, hh, hrow, hN, hv⟩ := hG
  have HV : Hid (∀ (i : Nat) (x : ByteArray), l[i]? = some x → f0 (o + i) = .string x) := hv
  have HR0 : Hid (w.rowIs b t N f0) := hrow
  unfold cnS at hk ⊢
  obtain ⟨n, hn⟩ : ∃ n, l.length = n := ⟨_, rfl⟩
  have HNN : Hid (l.length = n) := hn
  rw [hn] at hk hN ⊢
  clear hrow hv hn
  go_enter Try.func13, Try.ntmps13
  go_wp2
  go_loopw [1, 5] (fun a x wr => ∃ (i : Nat) (f : Nat → Value), i ≤ n ∧ x = .int .i64 (i : Int) ∧ a = .int .i64 ((k0 + i : Nat) : Int) ∧ wr.rowIs b t N f ∧ (∀ j, j < i → f (o + j) = .string (sr.mark (k0 + j))) ∧ Md lo hi w wr) (fun _ x _ => n - (intOf x).toNat)
  case atStart => exact ⟨0, f0, Nat.zero_le _, rfl, rfl, HR0.out, fun j h => by omega, Md.refl _ _ _⟩
  case round =>
    obtain ⟨i, f, hi', rfl, rfl, hrow, hval, hmd⟩ := hrel
    have HRW : Hid (wr.rowIs b t N f) := hrow
    have HVL : Hid (∀ j, j < i → f (o + j) = .string (sr.mark (k0 + j))) := hval
    have HMD : Hid (Md lo hi w wr) := hmd
    clear hrow hval hmd
    by_cases h : i < n
    · have h' : (i : Int) < (n : Int) := by omega
      obtain ⟨K, hK⟩ : ∃ K : Nat, k0 + i = K := ⟨_, rfl⟩
      have HKK : Hid (k0 + i = K) := hK
      have HMT : Hid (∀ W, Calls Try.prog 36 #[.int .i64 (K : Int)] W fun e w' => e = .returned (.string (sr.mark K)) ∧ Below W.heap.size W w') := fun W => sr.mark_any K (by omega) (by omega) W
      rw [hK]
      have hKb : K ≤ 100000000 := by omega
      obtain ⟨s, hs⟩ : ∃ s, sr.mark K = s := ⟨_, rfl⟩
      have HSS : Hid (sr.mark K = s) := hs
      rw [hs] at HMT
      clear hK hs
      go_wp2_with (go_at_call 36; refine (HMT.out _).mono ?_; rintro e w1 ⟨rfl, hb1⟩; refine Hid.out ?_)
      refine Lib.hid ?_
      have HR1 : Hid (w1.rowIs b t N f) := HRW.out.of_block (hb1.block b HRW.out.lt)
      have HM1 : Hid (Md lo hi w w1) := HMD.out.below hb1
      have g1 := HR1.out.cell (i := o + i) (by omega)
      have f1 := HR1.out.frozen (o + i)
      have HR2 : Hid ((w1.setCell ⟨b, o + i, none⟩ (.string s)).rowIs b t N (up f (o + i) (.string s))) := row_up HR1.out _ _
      have HM2 : Hid (Md lo hi w (w1.setCell ⟨b, o + i, none⟩ (.string s))) := HM1.out.set _ hl hh
      have HV2 : Hid (∀ j, j < i + 1 → up f (o + i) (.string s) (o + j) = .string (sr.mark (k0 + j))) := fun j hj => by
        by_cases e : j = i
        · subst e
          rw [up_same, HKK.out, HSS.out]
        · rw [up_oth (by omega)]
          exact HVL.out j (by omega)
      clear hb1
      go_wp2
      go_roundw
      case rel => exact ⟨i + 1, _, by omega, by go_num, by rw [← Nat.add_assoc, HKK.out]; go_num, HR2.out, HV2.out, HM2.out⟩
      case measure => simp [intOf]; omega
    · have h' : ¬ (i : Int) < (n : Int) := by omega
      obtain rfl : i = n := by omega
      have HE : Hid (GS lo hi wr (some ⟨b, o, none⟩) (mkS k0 l)) := ⟨b, o, t, N, f, rfl, hl, hh, HRW.out, by rw [mkS_len, HNN.out]; exact hN, fun j y hy => by
        obtain ⟨x, hx, rfl⟩ := mkS_of hy
        exact HVL.out j (by have := (List.getElem?_eq_some_iff.1 hx).1; have := HNN.out; omega)⟩
      go_wp2
      go_ret
      exact ⟨rfl, HE.out, HMD.out⟩

set_option maxRecDepth 100000 in
set_option maxHeartbeats 2000000 in
theorem heldS_any (a : Option Addr) (c : Nat) (l : List ByteArray) (k0 : Nat) (w : World) (hR : SrcS none w a (mkS k0 l)) (h0 : 0 < k0) (hk : k0 + cnS l ≤ 100000000) :
    Calls Try.prog 14 #[.slice a l.length c, .int .i64 (k0 : Int)] w fun e w' => e = .returned (.int .i64 ((k0 + cnS l : Nat) : Int)) ∧ Below w.heap.size w w' := by
  have HER : Hid (SrcS none w a (mkS k0 l)) := hR
  unfold cnS at hk ⊢
  obtain ⟨n, hn⟩ : ∃ n, l.length = n := ⟨_, rfl⟩
  have HNN : Hid (l.length = n) := hn
  rw [hn] at hk ⊢
  clear hR hn
  go_enter Try.func14, Try.ntmps14
  go_wp2
  go_loopw [1, 5] (fun v x wr => ∃ (i : Nat), i ≤ n ∧ x = .int .i64 (i : Int) ∧ v = .int .i64 ((k0 + i : Nat) : Int) ∧ Below w.heap.size w wr) (fun _ x _ => n - (intOf x).toNat)
  case atStart => exact ⟨0, Nat.zero_le _, rfl, rfl, Below.refl _ _⟩
  case round =>
    obtain ⟨i, hi, rfl, rfl, hbel⟩ := hrel
    by_cases h : i < n
    · have h' : (i : Int) < (n : Int) := by omega
      have HBB : Hid (Below w.heap.size w wr) := hbel
      obtain ⟨x, hx⟩ : ∃ x, l[i]? = some x := ⟨_, List.getElem?_eq_getElem (by rw [HNN.out]; exact h)⟩
      rcases HER.out with he | ⟨b, o, rfl, _, hc⟩
      · have := congrArg List.length he.2; rw [mkS_len, HNN.out] at this; simp at this; omega
      have hcl := hc i _ (mkS_at hx)
      obtain ⟨K, hK⟩ : ∃ K : Nat, k0 + i = K := ⟨_, rfl⟩
      rw [hK] at hcl
      have HKK : Hid (k0 + i = K) := hK
      rw [hK]
      have hKb : K ≤ 100000000 := by omega
      have hK0 : 0 < K := by omega
      have HM1 : Hid (∀ W, Calls Try.prog 36 #[.int .i64 (K : Int)] W fun e w' => e = .returned (.string (sr.mark K)) ∧ Below W.heap.size W w') := fun W => sr.mark_any K hK0 (by omega) W
      obtain ⟨s, hs⟩ : ∃ s, sr.mark K = s := ⟨_, rfl⟩
      rw [hs] at HM1 hcl
      have HCd : Hid (∀ W, Below w.heap.size w W → W.cell? ⟨b, o + i, none⟩ = some (.string s)) := fun W hW => (hW.cell (p := ⟨b, o + i, none⟩) (World.block_lt_of_cell? _ _ hcl)).trans hcl
      clear hs hK hcl hc hx hbel
      have d1 := HCd.out wr HBB.out
      go_wp2_with fail
      go_region_held3 (fun w' => w'.cell? ⟨b, o + i, none⟩ = some (.string s))
        (first
          | go_keep
          | exact HCd.out _ (HBB.out.drew.trans (hb1.mono HBB.out.size)))
        (first | ((go_at_call 36; refine (HM1.out _).mono ?_; rintro e w1 ⟨rfl, hb1⟩)))
      have HB1 : Hid (Below w.heap.size w w1) := HBB.out.drew.trans (hb1.mono HBB.out.size)
      clear hb1 d1
      go_wp2_with fail
      go_roundw
      case rel => exact ⟨i + 1, by omega, by go_num, by rw [← Nat.add_assoc, HKK.out]; go_num, HB1.out⟩
      case measure => simp [intOf]; omega
    · have h' : ¬ (i : Int) < (n : Int) := by omega
      obtain rfl : i = n := by omega
      go_wp2
      go_ret
      exact ⟨rfl, hbel⟩

def mk1Ac (k : Nat) (x : Ac) : Ac := ⟨((k : Nat) : Int), sr.mark (k + 1)⟩
def mkAc (k : Nat) (l : List Ac) : List Ac := l.mapIdx fun i x => mk1Ac (k + cnkAc l i) x
theorem mkAc_len (k : Nat) (l : List Ac) : (mkAc k l).length = l.length := by simp [mkAc]
theorem mkAc_at {k : Nat} {l : List Ac} {i : Nat} {x : Ac} (h : l[i]? = some x) : (mkAc k l)[i]? = some (mk1Ac (k + cnkAc l i) x) := by simp [mkAc, h]
theorem mkAc_of {k : Nat} {l : List Ac} {i : Nat} {y : Ac} (h : (mkAc k l)[i]? = some y) : ∃ x, l[i]? = some x ∧ y = mk1Ac (k + cnkAc l i) x := by
  have hi := (List.getElem?_eq_some_iff.1 h).1
  rw [mkAc_len] at hi
  have hx := List.getElem?_eq_getElem hi
  rw [mkAc_at hx] at h
  exact ⟨_, hx, (Option.some.inj h).symm⟩
/-- One of them, out of a row's cells. -/
def E1Ac (lo hi : Nat) (w : World) (g : Nat → Value) (x : Ac) : Prop := g 0 = .int .i64 x.fKind ∧ g 1 = .string x.fName
theorem E1Ac.kept {lo hi : Nat} {w w' : World} {g g' : Nat → Value} {x : Ac} (h : E1Ac lo hi w g x) (hg : ∀ r, r < 2 → g' r = g r) (hk : ∀ p, lo ≤ p → p < hi → w'.heap[p]? = w.heap[p]?) : E1Ac lo hi w' g' x := by
  obtain ⟨q0, q1⟩ := h
  exact ⟨(hg 0 (by omega)).trans q0, (hg 1 (by omega)).trans q1⟩
theorem E1Ac.wide {lo hi lo' hi' : Nat} {w : World} {g : Nat → Value} {x : Ac} (h : E1Ac lo hi w g x) (g1 : lo' ≤ lo) (g2 : hi ≤ hi') : E1Ac lo' hi' w g x := by
  obtain ⟨q0, q1⟩ := h
  exact ⟨q0, q1⟩
def GAc (lo hi : Nat) (w : World) (a : Option Addr) (l : List Ac) : Prop := ∃ b o t N f, ∃ s e : Nat → Nat, a = some ⟨b, o, none⟩ ∧ lo ≤ b ∧ b < hi ∧ w.rowIs b t N f ∧ o + l.length * 2 ≤ N ∧ (∀ (i : Nat) (x : Ac), l[i]? = some x → lo ≤ s i ∧ e i ≤ hi ∧ (b < s i ∨ e i ≤ b) ∧ E1Ac (s i) (e i) w (fun r => f (o + i * 2 + r)) x) ∧ (∀ i j, i < j → j < l.length → e i ≤ s j ∨ e j ≤ s i)
theorem GAc.kept {lo hi : Nat} {w w' : World} {a : Option Addr} {l : List Ac} (h : GAc lo hi w a l) (hk : ∀ p, lo ≤ p → p < hi → w'.heap[p]? = w.heap[p]?) : GAc lo hi w' a l := by
  obtain ⟨b, o, t, N, f, s, e, h0, h1, h2, h3, h4, h5, h6⟩ := h
  exact ⟨b, o, t, N, f, s, e, h0, h1, h2, h3.of_block (hk b h1 h2), h4, fun i x hx => by
    obtain ⟨k1, k2, k3, k4⟩ := h5 i x hx
    exact ⟨k1, k2, k3, k4.kept (fun _ _ => rfl) fun p g1 g2 => hk p (by omega) (by omega)⟩, h6⟩
theorem GAc.wide {lo hi lo' hi' : Nat} {w : World} {a : Option Addr} {l : List Ac} (h : GAc lo hi w a l) (g1 : lo' ≤ lo) (g2 : hi ≤ hi') : GAc lo' hi' w a l := by
  obtain ⟨b, o, t, N, f, s, e, h0, h1, h2, h3, h4, h5, h6⟩ := h
  exact ⟨b, o, t, N, f, s, e, h0, by omega, by omega, h3, h4, fun i x hx => by
    obtain ⟨k1, k2, k3, k4⟩ := h5 i x hx
    exact ⟨by omega, by omega, k3, k4⟩, h6⟩
theorem GAc.src {lo hi : Nat} {w : World} {a : Option Addr} {l : List Ac} (h : GAc lo hi w a l) : SrcAc none w a l := by
  obtain ⟨b, o, t, N, f, s, e, h0, h1, h2, h3, h4, h5, h6⟩ := h
  refine .inr ⟨b, o, h0, Okb.free _ _, fun i x hx => ?_⟩
  have hi := (List.getElem?_eq_some_iff.1 hx).1
  obtain ⟨k1, k2, k3, k4⟩ := h5 i x hx
  obtain ⟨q0, q1⟩ := k4
  exact ⟨(h3.cell (i := o + i * 2) (by omega)).trans (congrArg some q0), (h3.cell (i := o + i * 2 + 1) (by omega)).trans (congrArg some q1)⟩

set_option maxRecDepth 100000 in
set_option maxHeartbeats 4000000 in
theorem markGAc_any (lo hi : Nat) (a : Option Addr) (c : Nat) (l : List Ac) (k0 : Nat) (w : World) (hG : GAc lo hi w a l) (hhi : hi ≤ w.heap.size) (h0 : 0 < k0) (hk : k0 + cnAc l ≤ 100000000) :
    Calls Try.prog 22 #[.slice a l.length c, .int .i64 (k0 : Int)] w fun e w' => e = .returned (.int .i64 ((k0 + cnAc l : Nat) : Int)) ∧ GAc lo hi w' a (mkAc k0 l) ∧ Md lo hi w w' := by
  obtain ⟨b, o, t, N, f0, s, e, rfl, hl, hh, hrow, hN, hel, hdis⟩ := hG
  have HRZ : Hid (w.rowIs b t N f0) := hrow
  have HEZ : Hid (∀ (i : Nat) (x : Ac), l[i]? = some x → lo ≤ s i ∧ e i ≤ hi ∧ (b < s i ∨ e i ≤ b) ∧ E1Ac (s i) (e i) w (fun r => f0 (o + i * 2 + r)) x) := hel
  have HDI : Hid (∀ i j, i < j → j < l.length → e i ≤ s j ∨ e j ≤ s i) := hdis
  have HCL : Hid (∀ k, cnkAc l k ≤ cnAc l) := cnkAc_le l
  have HKL : Hid (k0 + cnAc l ≤ 100000000) := hk
  clear hrow hel hdis hk
  obtain ⟨n, hn⟩ : ∃ n, l.length = n := ⟨_, rfl⟩
  have HN : Hid (l.length = n) := hn
  have hn9 : n ≤ 100000000 := by have h1 := cnAc_len l; have h2 := HKL.out; omega
  rw [hn] at hN ⊢
  clear hn
  go_enter Try.func22, Try.ntmps22
  go_wp2
  go_loopw [1, 5] (fun a x wr => ∃ (i : Nat) (f : Nat → Value), i ≤ n ∧ x = .int .i64 (i : Int) ∧ a = .int .i64 ((k0 + cnkAc l i : Nat) : Int) ∧ wr.rowIs b t N f ∧ (∀ (j : Nat) (y : Ac), l[j]? = some y → E1Ac (s j) (e j) wr (fun r => f (o + j * 2 + r)) (if j < i then mk1Ac (k0 + cnkAc l j) y else y)) ∧ Md lo hi w wr) (fun _ x _ => n - (intOf x).toNat)
  case atStart => exact ⟨0, f0, Nat.zero_le _, rfl, by simp [cnkAc], HRZ.out, fun j y hy => (HEZ.out j y hy).2.2.2, Md.refl _ _ _⟩
  case round =>
    obtain ⟨i, f, hi', rfl, rfl, hrow, hel, hmd⟩ := hrel
    have HRW : Hid (wr.rowIs b t N f) := hrow
    have HEL : Hid (∀ (j : Nat) (y : Ac), l[j]? = some y → E1Ac (s j) (e j) wr (fun r => f (o + j * 2 + r)) (if j < i then mk1Ac (k0 + cnkAc l j) y else y)) := hel
    have HMD : Hid (Md lo hi w wr) := hmd
    have hhr : hi ≤ wr.heap.size := by have := hmd.2.1; omega
    clear hrow hel hmd
    by_cases h : i < n
    · have h' : (i : Int) < (n : Int) := by omega
      have hi0 : (0 : Int) ≤ (i : Int) := by omega
      obtain ⟨x, hx⟩ : ∃ x, l[i]? = some x := ⟨_, List.getElem?_eq_getElem (by rw [HN.out]; exact h)⟩
      have HX : Hid (l[i]? = some x) := hx
      have HSU : Hid (cnkAc l (i + 1) = cnkAc l i + cn1Ac x) := cnkAc_succ hx
      obtain ⟨hs1, hs2, hs3, _⟩ := HEZ.out i x hx
      have hE := HEL.out i x hx
      rw [if_neg (Nat.lt_irrefl i)] at hE
      obtain ⟨q0, q1⟩ := hE
      have q0 : f (o + i * 2 + 0) = .int .i64 x.fKind := q0
      have q1 : f (o + i * 2 + 1) = .string x.fName := q1

      have HF0 : Hid (Fr b (s i) (e i) wr wr) := Fr.refl _ _ _ _
      obtain ⟨K0, hK0⟩ : ∃ K : Nat, k0 + cnkAc l i = K := ⟨_, rfl⟩
      have HKK : Hid (k0 + cnkAc l i = K0) := hK0
      have HCB : Hid (K0 + cn1Ac x ≤ 100000000) := by
        show _ ≤ _
        have h1 := HCL.out (i + 1)
        have h2 := HKL.out
        have h3 := HSU.out
        omega
      have hK0b : K0 ≤ 100000000 := by have := HCB.out; omega
      have hK0c : K0 + 2 ≤ 100000000 := by have h9 := HCB.out; unfold cn1Ac at h9; omega
      have hK0p : 0 < K0 := by omega
      rw [hK0]
      clear hK0 hx
      have g0 := HRW.out.cell (i := o + i * 2) (by omega)
      have z0 := HRW.out.frozen (o + i * 2)
      have HR1 : Hid ((wr.setCell ⟨b, o + i * 2, none⟩ (.int .i64 ((K0 : Int)))).rowIs b t N (up (f) (o + i * 2) (.int .i64 ((K0 : Int))))) := row_up HRW.out _ _
      have HF1 : Hid (Fr b (s i) (e i) wr (wr.setCell ⟨b, o + i * 2, none⟩ (.int .i64 ((K0 : Int))))) := HF0.out.set _ _
      have HM1 : Hid (∀ W, Calls Try.prog 36 #[.int .i64 ((K0 : Int) + 1)] W fun e w' => e = .returned (.string (sr.mark (K0 + 1))) ∧ Below W.heap.size W w') := fun W => by
        have := sr.mark_any (K0 + 1) (by omega) (by omega) W
        rwa [show ((K0 + 1 : Nat) : Int) = (K0 : Int) + 1 by omega] at this
      obtain ⟨y1, hy1⟩ : ∃ y, sr.mark (K0 + 1) = y := ⟨_, rfl⟩
      have HY1 : Hid (sr.mark (K0 + 1) = y1) := hy1
      rw [hy1] at HM1
      clear hy1
      go_wp2_with (go_at_call 36; refine (HM1.out _).mono ?_; rintro e w1 ⟨rfl, hb⟩; refine Hid.out ?_)
      refine Lib.hid ?_
      have HR2 : Hid (w1.rowIs b t N (up (f) (o + i * 2) (.int .i64 ((K0 : Int))))) := HR1.out.of_block (hb.block b HR1.out.lt)
      have HF2 : Hid (Fr b (s i) (e i) wr w1) := HF1.out.below hb
      clear hb HM1 g0 z0
      have g1 := HR2.out.cell (i := o + i * 2 + 1) (by omega)
      have z1 := HR2.out.frozen (o + i * 2 + 1)
      have HR3 : Hid ((w1.setCell ⟨b, o + i * 2 + 1, none⟩ (.string y1)).rowIs b t N (up (up (f) (o + i * 2) (.int .i64 ((K0 : Int)))) (o + i * 2 + 1) (.string y1))) := row_up HR2.out _ _
      have HF3 : Hid (Fr b (s i) (e i) wr (w1.setCell ⟨b, o + i * 2 + 1, none⟩ (.string y1))) := HF2.out.set _ _
      have HEN : Hid (E1Ac (s i) (e i) (w1.setCell ⟨b, o + i * 2 + 1, none⟩ (.string y1)) (fun r => (up (up (f) (o + i * 2) (.int .i64 ((K0 : Int)))) (o + i * 2 + 1) (.string y1)) (o + i * 2 + r)) (mk1Ac K0 x)) := ⟨(by show (up (up (f) (o + i * 2) (.int .i64 ((K0 : Int)))) (o + i * 2 + 1) (.string y1)) (o + i * 2 + 0) = .int .i64 (((K0 : Nat)) : Int); exact (up_oth (by omega)).trans ((up_at (by omega)).trans (congrArg (Value.int .i64) (by  omega)))), (by show (up (up (f) (o + i * 2) (.int .i64 ((K0 : Int)))) (o + i * 2 + 1) (.string y1)) (o + i * 2 + 1) = .string (sr.mark (K0 + 1)); exact (up_at (by omega)).trans (congrArg Value.string (HY1.out.symm.trans (congrArg sr.mark (by  omega)))))⟩
      have HEA : Hid (∀ (j : Nat) (y : Ac), l[j]? = some y → E1Ac (s j) (e j) (w1.setCell ⟨b, o + i * 2 + 1, none⟩ (.string y1)) (fun r => (up (up (f) (o + i * 2) (.int .i64 ((K0 : Int)))) (o + i * 2 + 1) (.string y1)) (o + j * 2 + r)) (if j < i + 1 then mk1Ac (k0 + cnkAc l j) y else y)) := fun j y hy => by
        by_cases hji : j = i
        · subst hji
          have hxy : x = y := Option.some.inj (HX.out.symm.trans hy)
          rw [if_pos (by omega), HKK.out, ← hxy]
          exact HEN.out
        · have hold := HEL.out j y hy
          rw [show (if j < i + 1 then mk1Ac (k0 + cnkAc l j) y else y) = (if j < i then mk1Ac (k0 + cnkAc l j) y else y) by by_cases hj2 : j < i <;> simp [hj2] <;> omega]
          have hjl := (List.getElem?_eq_some_iff.1 hy).1
          have hil : i < l.length := by rw [HN.out]; exact h
          obtain ⟨u1, u2, u3, _⟩ := HEZ.out j y hy
          have hdj : e i ≤ s j ∨ e j ≤ s i := by
            rcases Nat.lt_or_ge j i with h9 | h9
            · exact (HDI.out j i h9 hil).symm
            · exact HDI.out i j (by omega) hjl
          exact hold.kept (fun r hr => (by show (up (up (f) (o + i * 2) (.int .i64 ((K0 : Int)))) (o + i * 2 + 1) (.string y1)) (o + j * 2 + r) = f (o + j * 2 + r); exact (up_oth (by omega)).trans ((up_oth (by omega)).trans (rfl)))) (fun p p1 p2 => HF3.out.2.2 p (by omega) (by omega) (by omega))
      have HME : Hid (Md lo hi w (w1.setCell ⟨b, o + i * 2 + 1, none⟩ (.string y1))) := HMD.out.trans (HF3.out.to hl hh hs1 hs2)
      clear q0 q1
      go_wp2
      go_roundw
      case rel => exact ⟨i + 1, _, by omega, by go_num, by (rw [HSU.out]; unfold cn1Ac;  have := HKK.out; go_num), HR3.out, HEA.out, HME.out⟩
      case measure => simp [intOf]; omega
    · have h' : ¬ (i : Int) < (n : Int) := by omega
      obtain rfl : i = n := by omega
      have HE : Hid (cnkAc l i = cnAc l) := by show _ = _; unfold cnAc; rw [HN.out]
      rw [HE.out]
      have HGE : Hid (GAc lo hi wr (some ⟨b, o, none⟩) (mkAc k0 l)) := ⟨b, o, t, N, f, s, e, rfl, hl, hh, HRW.out, by rw [mkAc_len, HN.out]; exact hN, fun j y hy => by
        obtain ⟨x, hx, rfl⟩ := mkAc_of hy
        obtain ⟨u1, u2, u3, _⟩ := HEZ.out j x hx
        have := HEL.out j x hx
        rw [if_pos (by have := (List.getElem?_eq_some_iff.1 hx).1; have := HN.out; omega)] at this
        exact ⟨u1, u2, u3, this⟩, fun p q h1 h2 => HDI.out p q h1 (by rw [mkAc_len] at h2; exact h2)⟩
      go_wp2
      go_ret
      exact ⟨rfl, HGE.out, HMD.out⟩

set_option maxRecDepth 100000 in
set_option maxHeartbeats 4000000 in
theorem heldAc_any (a : Option Addr) (c : Nat) (l : List Ac) (k0 : Nat) (w : World) (hR : SrcAc none w a (mkAc k0 l)) (h0 : 0 < k0) (hk : k0 + cnAc l ≤ 100000000) :
    Calls Try.prog 23 #[.slice a l.length c, .int .i64 (k0 : Int)] w fun e w' => e = .returned (.int .i64 ((k0 + cnAc l : Nat) : Int)) ∧ Below w.heap.size w w' := by
  have HER : Hid (SrcAc none w a (mkAc k0 l)) := hR
  have HCL : Hid (∀ k, cnkAc l k ≤ cnAc l) := cnkAc_le l
  have HKL : Hid (k0 + cnAc l ≤ 100000000) := hk
  obtain ⟨n, hn⟩ : ∃ n, l.length = n := ⟨_, rfl⟩
  have HNN : Hid (l.length = n) := hn
  have hn9 : n ≤ 100000000 := by have h1 := cnAc_len l; have h2 := HKL.out; omega
  rw [hn]
  clear hR hn hk
  go_enter Try.func23, Try.ntmps23
  go_wp2
  go_loopw [1, 5] (fun v x wr => ∃ (i : Nat), i ≤ n ∧ x = .int .i64 (i : Int) ∧ v = .int .i64 ((k0 + cnkAc l i : Nat) : Int) ∧ Below w.heap.size w wr) (fun _ x _ => n - (intOf x).toNat)
  case atStart => exact ⟨0, Nat.zero_le _, rfl, by simp [cnkAc], Below.refl _ _⟩
  case round =>
    obtain ⟨i, hi, rfl, rfl, hbel⟩ := hrel
    have HBB : Hid (Below w.heap.size w wr) := hbel
    clear hbel
    by_cases h : i < n
    · have h' : (i : Int) < (n : Int) := by omega
      have hi0 : (0 : Int) ≤ (i : Int) := by omega
      obtain ⟨x, hx⟩ : ∃ x, l[i]? = some x := ⟨_, List.getElem?_eq_getElem (by rw [HNN.out]; exact h)⟩
      have HX : Hid (l[i]? = some x) := hx
      have HSU : Hid (cnkAc l (i + 1) = cnkAc l i + cn1Ac x) := cnkAc_succ hx
      rcases HER.out with he | ⟨b, o, rfl, _, hc⟩
      · have := congrArg List.length he.2; rw [mkAc_len, HNN.out] at this; simp at this; omega
      have hcx := hc i _ (mkAc_at hx)
      obtain ⟨K0, hK0⟩ : ∃ K : Nat, k0 + cnkAc l i = K := ⟨_, rfl⟩
      rw [hK0] at hcx
      have HKK : Hid (k0 + cnkAc l i = K0) := hK0
      have HCB : Hid (K0 + cn1Ac x ≤ 100000000) := by
        show _ ≤ _
        have h1 := HCL.out (i + 1)
        have h2 := HKL.out
        have h3 := HSU.out
        omega
      have hK0b : K0 ≤ 100000000 := by have := HCB.out; omega
      have hK0c : K0 + 2 ≤ 100000000 := by have h9 := HCB.out; unfold cn1Ac at h9; omega
      have hK0p : 0 < K0 := by omega
      rw [hK0]
      obtain ⟨e0, e1⟩ := hcx
      have HC : Hid (∀ W, Below w.heap.size w W → W.cell? ⟨b, o + i * 2, none⟩ = some (.int .i64 (((K0 : Nat)) : Int)) ∧ W.cell? ⟨b, o + i * 2 + 1, none⟩ = some (.string (sr.mark (K0 + 1)))) := fun W hW => by
        have kk : ∀ {p v}, w.cell? ⟨b, p, none⟩ = some v → W.cell? ⟨b, p, none⟩ = some v := fun {p v} h => (hW.cell (p := ⟨b, p, none⟩) (World.block_lt_of_cell? _ _ h)).trans h
        exact ⟨kk e0, kk e1⟩

      obtain ⟨y1, hy1⟩ : ∃ y, sr.mark (K0 + 1) = y := ⟨_, rfl⟩
      have HY1 : Hid (sr.mark (K0 + 1) = y1) := hy1
      rw [hy1] at HC
      clear hy1
      clear hK0 hx hc e0 e1 
      have dd0 : wr.cell? ⟨b, o + i * 2, none⟩ = some (.int .i64 ((K0 : Int))) := by have := (HC.out wr HBB.out).1; rwa [show ((K0 : Nat) : Int) = (K0 : Int) by  omega] at this
      have HM1 : Hid (∀ W, Calls Try.prog 36 #[.int .i64 ((K0 : Int) + 1)] W fun e w' => e = .returned (.string y1) ∧ Below W.heap.size W w') := fun W => by
        have := sr.mark_any (K0 + 1) (by omega) (by omega) W
        rw [show ((K0 + 1 : Nat) : Int) = (K0 : Int) + 1 by omega] at this
        rwa [show sr.mark (K0 + 1) = y1 from (congrArg sr.mark (by  omega)).trans HY1.out] at this
      have HCd1 : Hid (∀ W, Below w.heap.size w W → W.cell? ⟨b, o + i * 2 + 1, none⟩ = some (.string y1)) := fun W hW => (HC.out W hW).2
      have dd1 := HCd1.out wr HBB.out
      go_wp2_with fail
      go_region_held3 (fun w' => w'.cell? ⟨b, o + i * 2 + 1, none⟩ = some (.string y1))
        (first | go_keep | exact HCd1.out _ (HBB.out.drew.trans (hb1.mono HBB.out.size)))
        (first | ((go_at_call 36; refine (HM1.out _).mono ?_; rintro e w1 ⟨rfl, hb1⟩)))
      have HB1 : Hid (Below w.heap.size w w1) := HBB.out.drew.trans (hb1.mono HBB.out.size)
      clear hb1 dd1 dd0
      go_wp2_with fail
      go_roundw
      case rel => exact ⟨i + 1, by omega, by go_num, by (rw [HSU.out]; unfold cn1Ac;  have := HKK.out; go_num), HB1.out⟩
      case measure => simp [intOf]; omega
    · have h' : ¬ (i : Int) < (n : Int) := by omega
      obtain rfl : i = n := by omega
      have HE : Hid (cnkAc l i = cnAc l) := by show _ = _; unfold cnAc; rw [HNN.out]
      rw [HE.out]
      go_wp2
      go_ret
      exact ⟨rfl, HBB.out⟩

end Go.Proofs.Ytdddplhfhpghkaa.ty

namespace Go.Proofs.Ytdddplhfhpghkaa.hp
open Go.ChangeShapes Go.WideShapes Go.ChangeAt Go.RowKit Go.Deep Go.Maps
open fa (Us uNo nmL nds aw aws nAt nAt_some uNo_yes uNo_get uNo_le)
open fw (soA soB Ua ua_of soN)
set_option linter.unusedVariables false
set_option linter.unusedSimpArgs false

/-! ### PlanUnits, plainly; rows of acts -/

def bA (m : List UInt8) : ByteArray := ⟨m.toArray⟩
theorem bA_list (m : List UInt8) : (bA m).data.toList = m := by simp [bA]
theorem bA_of (p : ByteArray) : bA p.data.toList = p := by simp [bA]
def act (k : Int) (m : List UInt8) : ty.Ac := ⟨k, bA m⟩
/-- The names in the order of stopping. -/
def stp (us : List ty.Un) : List (List UInt8) := (((List.range us.length).reverse).filter fun i => !decide (nAt us i ∈ soA us)).map (nAt us) ++ (soA us).reverse
def exAt (us : List ty.Un) (m : List UInt8) : ByteArray := (us[uNo us m]?.map fun u => u.fExec).getD ⟨#[]⟩
def kpAt (us : List ty.Un) (m : List UInt8) : Bool := (us[uNo us m]?.map fun u => u.fKeep).getD false
def rst (old new : List ty.Un) (m : List UInt8) : Bool := !kpAt new m && (decide (uNo old m < old.length) && !decide (exAt old m = exAt new m))
def sa1 (new : List ty.Un) (rn : List (List UInt8)) (m : List UInt8) : List ty.Ac := if decide (m ∈ rn) && !decide (uNo new m < new.length) then [act 1 m] else []
def sa2 (old new : List ty.Un) (rn : List (List UInt8)) (m : List UInt8) : List ty.Ac := if decide (m ∈ rn) then (if rst old new m then [act 3 m] else []) else [act 2 m]
/-- What both answer where all is as it should be. -/
def plL (old new : List ty.Un) (rn : List (List UInt8)) : List ty.Ac := (stp old).flatMap (sa1 new rn) ++ (soA new).flatMap (sa2 old new rn)
def plP (old new : List ty.Un) (rn : List ByteArray) : Prop := (un.usB old = true ∧ un.usB new = true) ∧ rn.length ≤ 2000
instance (old new : List ty.Un) (rn : List ByteArray) : Decidable (plP old new rn) := by unfold plP; exact inferInstance
def plA (old new : List ty.Un) (rn : List ByteArray) : List ty.Ac := if plP old new rn then plL old new (rn.map fun b => b.data.toList) else []

theorem soA_in {us : List ty.Un} (hu : un.usB us = true) : ∃ O : List Nat, soA us = O.map (nAt us) ∧ (∀ x ∈ O, x < us.length) := by
  have key : ∀ k, ∃ O : List Nat, soN us k = O.map (nAt us) ∧ (∀ x ∈ O, x < us.length) := fun k => by
    induction k with
    | zero => exact ⟨[], rfl, fun x hx => by cases hx⟩
    | succ k ih =>
      obtain ⟨O, e, h⟩ := ih
      show ∃ O, fw.so1 us (soN us k) = _ ∧ _
      unfold fw.so1
      split
      · rename_i u hf
        obtain ⟨j, hj⟩ := List.getElem?_of_mem (List.mem_of_find?_eq_some hf)
        refine ⟨O ++ [j], by rw [e, List.map_append, List.map_singleton, nAt_some hj], fun x hx => ?_⟩
        rcases List.mem_append.1 hx with h1 | h1
        · exact h x h1
        · rw [List.mem_singleton.1 h1]; exact (List.getElem?_eq_some_iff.1 hj).1
      · exact ⟨O, e, h⟩
  obtain ⟨O, e, h⟩ := key us.length
  exact ⟨O, by unfold soA; rw [if_pos hu, e], h⟩
theorem soA_no {us : List ty.Un} (hu : un.usB us = true) {m : List UInt8} (hm : m ∈ soA us) : uNo us m < us.length ∧ ∃ u, us[uNo us m]? = some u ∧ nmL u = m := by
  obtain ⟨O, e, h⟩ := soA_in hu
  rw [e] at hm
  obtain ⟨x, hx, rfl⟩ := List.mem_map.1 hm
  have hl := h x hx
  have e2 : us[x]? = some us[x] := List.getElem?_eq_getElem hl
  have e3 : uNo us (nAt us x) = x := by rw [nAt_some e2]; exact uNo_yes (ua_of hu).toUs e2 rfl
  rw [e3]
  exact ⟨hl, _, e2, (nAt_some e2).symm⟩

/-- The program's numbers in the order of stopping. -/
def spN (n : Nat) (O : List Nat) : List Nat := (O ++ (List.range n).filter fun i => !decide (i ∈ O)).reverse
theorem spN_names {us : List ty.Un} (hU : Ua us) (hu : un.usB us = true) {O : List Nat} {f : Nat → Nat} (h : Iv us O f []) : (spN us.length O).map (nAt us) = stp us := by
  obtain ⟨e, _⟩ := h.done hU hu
  unfold spN stp
  rw [e, List.reverse_append, List.map_append, List.map_reverse, List.map_reverse, List.filter_reverse, List.map_reverse]
  congr 3
  refine List.filter_congr fun x hx => ?_
  have hx := List.mem_range.1 hx
  have e2 : us[x]? = some us[x] := List.getElem?_eq_getElem hx
  congr 1
  rw [decide_eq_decide, nm_in hU.toUs h.lt, nAt_some e2, uNo_yes hU.toUs e2 rfl]

theorem act_one (k : Int) (m : ByteArray) : ∀ u ∈ [Value.int .i64 k, .string m], u.oneCell' = true := fun u hu => by
  simp only [List.mem_cons, List.not_mem_nil, or_false] at hu
  rcases hu with rfl | rfl <;> rfl
def aC (l : List ty.Ac) : List Value := l.flatMap fun e => [.int .i64 e.fKind, .string e.fName]
theorem aC_len (l : List ty.Ac) : (aC l).length = l.length * 2 := by
  unfold aC
  induction l with
  | nil => rfl
  | cons a l ih => rw [List.flatMap_cons, List.length_append, ih]; simp; omega
theorem aC_at : ∀ {l : List ty.Ac} {j : Nat} {e : ty.Ac}, l[j]? = some e → (aC l)[j * 2]? = some (.int .i64 e.fKind) ∧ (aC l)[j * 2 + 1]? = some (.string e.fName)
  | [], j, e, h => by simp at h
  | a :: l, 0, e, h => by
    simp at h
    subst h
    exact ⟨rfl, rfl⟩
  | a :: l, j + 1, e, h => by
    have ih := aC_at (l := l) (j := j) (e := e) (by simpa using h)
    have e1 : aC (a :: l) = [.int .i64 a.fKind, .string a.fName] ++ aC l := rfl
    rw [e1, List.getElem?_append_right (by simp; omega), List.getElem?_append_right (by simp; omega)]
    have e2 : (j + 1) * 2 - [Value.int .i64 a.fKind, .string a.fName].length = j * 2 := by simp; omega
    have e3 : (j + 1) * 2 + 1 - [Value.int .i64 a.fKind, .string a.fName].length = j * 2 + 1 := by simp; omega
    rw [e2, e3]
    exact ih
theorem aC_snoc (l : List ty.Ac) (e : ty.Ac) : aC (l ++ [e]) = aC l ++ [.int .i64 e.fKind, .string e.fName] := by
  unfold aC
  rw [List.flatMap_append]
  simp

/-- A row of acts of the call's own. -/
def OwA (B : Nat) (w : World) (v : Value) (l : List ty.Ac) : Prop := w.ownsRow B 64 2 v l.length (aC l) ∧ v ≠ .slice none 0 0
theorem OwA.below {B : Nat} {w w' : World} {v : Value} {l : List ty.Ac} (h : OwA B w v l) (hb : Below w.heap.size w w') : OwA B w' v l := ⟨World.ownsRow.kept h.1 (row := none) ⟨hb.os, hb.tape, hb.output, hb.size, fun j hj _ => hb.block j hj⟩ (Classical.em _), h.2⟩
theorem OwA.zero (w : World) : OwA w.heap.size (w.alloc (.cells #[] 64)) (.slice (some ⟨w.heap.size, 0, none⟩) 0 0) [] := ⟨⟨rfl, .inr ⟨w.heap.size, 0, #[], rfl, Nat.le_refl _, by unfold World.alloc; exact Array.getElem?_push_size, Nat.zero_le _, by unfold maxLen; omega, rfl, by simp [aC]⟩⟩, by intro e; cases e⟩
theorem OwA.mono {B B' : Nat} {w : World} {v : Value} {l : List ty.Ac} (h : OwA B w v l) (hb : B' ≤ B) : OwA B' w v l := by
  obtain ⟨⟨h1, h2⟩, h3⟩ := h
  refine ⟨⟨h1, ?_⟩, h3⟩
  rcases h2 with h | ⟨g, cap, cur, e, h4, h5⟩
  · exact .inl h
  · exact .inr ⟨g, cap, cur, e, Nat.le_trans hb h4, h5⟩
theorem OwA.row {B : Nat} {w : World} {v : Value} {l : List ty.Ac} (h : OwA B w v l) : ∃ g cap f, v = .slice (some ⟨g, 0, none⟩) l.length cap ∧ B ≤ g ∧ g < w.heap.size ∧ w.rowIs g 64 (cap * 2) f ∧ l.length ≤ cap ∧ ∀ (j : Nat) (e : ty.Ac), l[j]? = some e → f (j * 2) = .int .i64 e.fKind ∧ f (j * 2 + 1) = .string e.fName := by
  obtain ⟨⟨_, h'⟩, hv⟩ := h
  rcases h' with ⟨rfl, _⟩ | ⟨g, cap, cur, rfl, hb, hg, hnc, hcm, hcs, htk⟩
  · exact absurd rfl hv
  · refine ⟨g, cap, fun k => cur[k]?.getD default, rfl, hb, (Array.getElem?_eq_some_iff.1 hg).1, ⟨cur, hg, hcs, fun k hk => by rw [Array.getElem?_eq_getElem (by omega)]; simp [Array.getElem?_eq_getElem (show k < cur.size by omega)]⟩, hnc, fun j e he => ?_⟩
    have hj := (List.getElem?_eq_some_iff.1 he).1
    have hc : ∀ p u, p < l.length * 2 → (aC l)[p]? = some u → cur[p]?.getD default = u := fun p u hp hu => by
      have h1 : (cur.toList.take (l.length * 2))[p]? = some u := by rw [htk]; exact hu
      rw [List.getElem?_take_of_lt hp, Array.getElem?_toList] at h1
      rw [h1]
      rfl
    have h2 := aC_at he
    exact ⟨hc _ _ (by omega) h2.1, hc _ _ (by omega) h2.2⟩
/-- The specification's answer, and the program's. -/
def CpA (w : World) (v : Value) (l : List ty.Ac) : Prop := ∃ g c, v = .slice (some ⟨g, 0, none⟩) l.length c ∧ ty.SrcAc none w (some ⟨g, 0, none⟩) l
def AnA (lo : Nat) (w : World) (v : Value) (l : List ty.Ac) : Prop := ∃ g c, v = .slice (some ⟨g, 0, none⟩) l.length c ∧ ty.GAc lo w.heap.size w (some ⟨g, 0, none⟩) l
theorem OwA.an {B : Nat} {w : World} {v : Value} {l : List ty.Ac} (h : OwA B w v l) : AnA B w v l := by
  obtain ⟨g, cap, f, e, h1, h2, h3, h4, h5⟩ := h.row
  refine ⟨g, cap, e, g, 0, 64, cap * 2, f, fun _ => B, fun _ => 0, rfl, h1, h2, h3, by omega, fun i x hx => ⟨Nat.le_refl _, Nat.zero_le _, .inr (Nat.zero_le _), ?_⟩, fun i j _ _ => .inl (Nat.zero_le _)⟩
  obtain ⟨k1, k2⟩ := h5 i x hx
  exact ⟨by show f (0 + i * 2 + 0) = _; rw [show 0 + i * 2 + 0 = i * 2 by omega]; exact k1, by show f (0 + i * 2 + 1) = _; rw [show 0 + i * 2 + 1 = i * 2 + 1 by omega]; exact k2⟩
theorem OwA.cp {B : Nat} {w : World} {v : Value} {l : List ty.Ac} (h : OwA B w v l) : CpA w v l := by
  obtain ⟨g, c, e, h1⟩ := h.an
  exact ⟨g, c, e, h1.src⟩

theorem infoA : (Try.prog.info? 64).map (fun i => (i.zero, i.size, i.bytes)) = some (some (.agg #[.int .i64 0, .string ⟨#[]⟩]), 2, 24) := by kernel_rfl

theorem two_news (W : World) (e : TypeId) (v0 v1 : Value) : ∀ j u, [v0, v1][j]? = some u → (W.alloc (.cells #[v0, v1] e)).cell? ((⟨W.heap.size, 0, none⟩ : Addr).add j) = some u := by
  intro j u h
  have hc : (W.alloc (.cells #[v0, v1] e)).cell? ⟨W.heap.size, j, none⟩ = (#[v0, v1] : Array Value)[j]? := World.cell?_alloc_new W _ _ j
  rw [addr_add, Nat.zero_add, hc, ← h]
  simp

theorem app_ac (w : World) {ops : Array Oper} {rest : List Oper} {o : Oper} {a : Act} {Q : Exit → Act → World → Prop} (hgd : o.guard = none) (s x : Operand)
    (ho : o.op = .call { callee := .builtin .append, args := #[s, x], argTypes := #[35, 35] })
    (base : Nat) (v : Value) (l : List ty.Ac) (hs : a.eval s = v) (hown : OwA base w v l)
    (ad : Addr) (c : Nat) (e : ty.Ac) (hx : a.eval x = .slice (some ad) 1 c) (hnews : ∀ j u, [Value.int .i64 e.fKind, .string e.fName][j]? = some u → w.cell? (ad.add j) = some u)
    (h63 : l.length ≤ 400000000) (hbase : base ≤ w.heap.size)
    (h : ∀ v' w', OwA base w' v' (l ++ [e]) → w.grownBy w' v.ownBlock → (v'.ownBlock = v.ownBlock ∨ v'.ownBlock = some w.heap.size) → wpList Try.prog ops Q rest (a.put o.dst v') w') : wpList Try.prog ops Q (o :: rest) a w := by
  obtain ⟨i, hi, hzz⟩ := Option.map_eq_some_iff.1 infoA
  simp only [Prod.mk.injEq] at hzz
  obtain ⟨hz, hsi, hb⟩ := hzz
  refine wpList_append_own_at w hgd s x 35 ho base 64 i _ 2 24 Try.underlying35 hi hz hsi hb rfl (by decide) v l.length (aC l) hs hown.1 ad 1 c _ hx rfl hnews (act_one _ _) (by unfold maxLen; omega) (by omega) hbase (fun v' w' p q r r2 => h v' w' ⟨?_, fun e => hown.2 (r.1 e).1⟩ q r2)
  rw [aC_snoc, List.length_append]
  exact p
end Go.Proofs.Ytdddplhfhpghkaa.hp

namespace Go.Proofs.Ytdddplhfhpghkaa.st2
open Go.ChangeShapes Go.WideShapes Go.ChangeAt Go.RowKit Go.Deep Go.Maps
set_option linter.unusedVariables false
set_option linter.unusedSimpArgs false

/-! ### Sets of numbers and of texts -/

abbrev OwN (w : World) (b n : Nat) (D : DataW Unit) : Prop := w.ownsMap Try.prog 3 unitElem b n D
/-- A set of numbers. -/
def StN (w : World) (b n : Nat) (F : List Nat) : Prop := ∃ D : DataW Unit, OwN w b n D ∧ ∀ x : Int, Maps.has D (.int .i64 x) = true ↔ ∃ k ∈ F, ((k : Nat) : Int) = x
theorem keyN (x : Nat) (hx : x ≤ 1048576) : keyOf Try.prog 3 (.int .i64 (x : Int)) = some (.int .i64 (x : Int)) := keyOf_int_mk Try.underlying3 (by
  have h1 : (-9223372036854775808 : Int) ≤ (x : Int) := by omega
  have h2 : (x : Int) ≤ 9223372036854775807 := by omega
  unfold Lit.wf
  simp only [Bool.and_eq_true, decide_eq_true_eq]
  exact ⟨h1, h2⟩)
theorem keyedN : Keyed Try.prog 3 := int_keyed Try.underlying3
theorem StN.below {w w' : World} {b n : Nat} {F : List Nat} (h : StN w b n F) (k : Below w.heap.size w w') : StN w' b n F := by
  obtain ⟨D, h1, h2⟩ := h
  exact ⟨D, h1.kept (row := none) ⟨k.os, k.tape, k.output, k.size, fun j hj _ => k.block j hj⟩ (by simp), h2⟩
theorem StN.grown {w w' : World} {b n g : Nat} {F : List Nat} (h : StN w b n F) (k : w.grownBy w' (some g)) (hg : b ≠ g) : StN w' b n F := by
  obtain ⟨D, h1, h2⟩ := h
  exact ⟨D, h1.kept (row := some g) k (fun e => hg (Option.some.inj e)), h2⟩
theorem StN.lt {w : World} {b n : Nat} {F : List Nat} (h : StN w b n F) : b < w.heap.size := by
  obtain ⟨D, h1, _⟩ := h
  exact h1.lt
theorem StN.zero (w : World) : StN (w.alloc (.map #[] 0)) w.heap.size 0 [] := ⟨.map [], World.ownsMap_made w Try.prog 3 _, fun x => by simp [Maps.has]⟩

set_option maxRecDepth 100000 in
theorem addN_any (x : Nat) (hx : x ≤ 1048576) (b n : Nat) (hn : n ≤ 1048577) (F : List Nat) (w : World) (h : StN w b n F) :
    Calls Try.prog 90 #[.map (some b), .int .i64 (x : Int)] w fun e w' => (∃ v, e = .returned v) ∧ StN w' b (n + 1) (F ++ [x]) ∧ w.grownBy w' (some b) := by
  obtain ⟨D, h, hh⟩ := h
  have hkey := keyN x hx
  have HP : Hid (∀ y : Int, Maps.has (D.put (.int .i64 (x : Int)) (.agg [])) (.int .i64 y) = true ↔ ∃ k ∈ F ++ [x], ((k : Nat) : Int) = y) := fun y => by
    by_cases e : y = (x : Int)
    · subst e
      rw [has_put_same h.isMap (show WideAt.IsKeyLit (.int .i64 (x : Int)) from trivial)]
      simp
    · rw [has_put_other (by simpa using e), hh y]
      constructor
      · rintro ⟨k, hk, e2⟩
        exact ⟨k, List.mem_append_left _ hk, e2⟩
      · rintro ⟨k, hk, e2⟩
        rcases List.mem_append.1 hk with hk | hk
        · exact ⟨k, hk, e2⟩
        · simp only [List.mem_singleton] at hk
          subst hk
          exact absurd e2.symm e
  clear hh
  go_enter Try.func90, Try.ntmps90
  go_wp2_with (first
    | (at_mapUpdate; refine wpList_mapUpdate_own _ rfl _ _ _ 91 rfl 3 94 keyedN Try.underlying91 _ b n D rfl h (by unfold maxLen; omega) _ _ _ rfl rfl hkey _ [] unitElem_mk ?_; intro wu hownu hgu)
    | go_in)
  go_returns
  exact ⟨⟨_, rfl⟩, ⟨_, hownu, HP.out⟩, hgu⟩

set_option maxRecDepth 100000 in
theorem hasN_any (x : Nat) (hx : x ≤ 1048576) (b n : Nat) (F : List Nat) (w : World) (h : StN w b n F) :
    Calls Try.prog 71 #[.map (some b), .int .i64 (x : Int)] w fun e w' => e = .returned (.bool (decide (x ∈ F))) ∧ Below w.heap.size w w' := by
  obtain ⟨D, h, hh⟩ := h
  have hkey := keyN x hx
  have HE : Hid (Maps.has D (.int .i64 (x : Int)) = decide (x ∈ F)) := by
    show _ = _
    rw [Bool.eq_iff_iff, hh, decide_eq_true_eq]
    constructor
    · rintro ⟨k, hk, e⟩
      obtain rfl : k = x := by omega
      exact hk
    · intro hk
      exact ⟨x, hk, rfl⟩
  rw [← HE.out]
  clear hh HE
  go_enter Try.func71, Try.ntmps71
  go_wp2_with (first
    | (at_lookup; refine wpList_lookup_own_unit _ rfl _ _ 91 rfl 3 94 keyedN Try.underlying91 (Try.zeroValue94 _) b n D rfl h _ _ rfl hkey ?_)
    | go_in)
  go_ret
  exact ⟨rfl, (Below.refl _ _).alloc (Nat.le_refl _) _⟩

abbrev OwM (w : World) (b n : Nat) (D : DataW Unit) : Prop := w.ownsMap Try.prog 9 unitElem b n D
/-- A set of texts. -/
def StM (w : World) (b n : Nat) (L : List (List UInt8)) : Prop := ∃ D : DataW Unit, OwM w b n D ∧ ∀ y, Maps.has D (.string y) = true ↔ y ∈ L
theorem keyS (t : ByteArray) (ht : t.size ≤ 1048576) : keyOf Try.prog 9 (.string t) = some (.string t.data.toList) := WideMaps.keyOf_string_mk Try.underlying9 (by unfold maxLen; omega)
theorem keyedS : Keyed Try.prog 9 := string_keyed Try.underlying9
theorem mk_set (m : Nat) (W : World) : (Instr.makeMap 66 (some (.int .i64 (m : Int)))).run Try.prog W = .ok (.map (some W.heap.size)) (W.alloc (.map #[] 0)) := by
  simp [Instr.makeMap, go_sem]

theorem StM.below {w w' : World} {b n : Nat} {L : List (List UInt8)} (h : StM w b n L) (k : Below w.heap.size w w') : StM w' b n L := by
  obtain ⟨D, h1, h2⟩ := h
  exact ⟨D, h1.kept (row := none) ⟨k.os, k.tape, k.output, k.size, fun j hj _ => k.block j hj⟩ (by simp), h2⟩

set_option maxRecDepth 100000 in
theorem add_any (t : ByteArray) (ht : t.size ≤ 1048576) (b n : Nat) (hn : n ≤ 1048577) (L L' : List (List UInt8)) (hL : ∀ y, y ∈ L' ↔ y ∈ L ∨ y = t.data.toList) (w : World) (h : StM w b n L) :
    Calls Try.prog 69 #[.map (some b), .string t] w fun e w' => (∃ v, e = .returned v) ∧ StM w' b (n + 1) L' ∧ w.grownBy w' (some b) := by
  obtain ⟨D, h, hh⟩ := h
  have hkey := keyS t ht
  have HP : Hid (∀ y, Maps.has (D.put (.string t.data.toList) (.agg [])) (.string y) = true ↔ y ∈ L') := fun y => by
    rw [hL]
    by_cases e : y = t.data.toList
    · subst e
      rw [has_put_same h.isMap (show WideAt.IsKeyLit (.string t.data.toList) from trivial)]
      simp
    · rw [has_put_other (by simpa using e), hh y]
      simp [e]
  clear hh
  go_enter Try.func69, Try.ntmps69
  go_wp2_with (first
    | (at_mapUpdate; refine wpList_mapUpdate_own _ rfl _ _ _ 66 rfl 9 94 keyedS Try.underlying66 _ b n D rfl h (by unfold maxLen; omega) _ _ _ rfl rfl hkey _ [] unitElem_mk ?_; intro wu hownu hgu)
    | go_in)
  go_returns
  exact ⟨⟨_, rfl⟩, ⟨_, hownu, HP.out⟩, hgu⟩

theorem grown_tr {A B C : World} {b : Nat} (h : A.grownBy B (some b)) (k : B.grownBy C (some b)) : A.grownBy C (some b) :=
  ⟨k.os.trans h.os, k.tape.trans h.tape, k.output.trans h.output, Nat.le_trans h.size k.size, fun j hj hne => (k.block j (Nat.lt_of_lt_of_le hj h.size) hne).trans (h.block j hj hne)⟩
theorem grown_bl {A B C : World} {b : Nat} (h : A.grownBy B (some b)) (k : Below B.heap.size B C) : A.grownBy C (some b) :=
  ⟨k.os.trans h.os, k.tape.trans h.tape, k.output.trans h.output, Nat.le_trans h.size k.size, fun j hj hne => (k.block j (Nat.lt_of_lt_of_le hj h.size)).trans (h.block j hj hne)⟩
theorem grown_to {w w' : World} (hg : w.grownBy w' (some w.heap.size)) : Below w.heap.size w w' := ⟨hg.os, hg.tape, hg.output, hg.size, fun k hk => hg.block k hk (fun e => by have := Option.some.inj e; omega)⟩

set_option maxRecDepth 100000 in
set_option maxHeartbeats 4000000 in
theorem setOf_any (a : Option Addr) (cap : Nat) (l : List ByteArray) (w : World) (hb : ty.SrcS none w a l) (hn : l.length ≤ 1048576) (hs : ∀ x ∈ l, x.size ≤ 1048576) :
    Calls Try.prog 41 #[.slice a l.length cap] w fun e w' => e = .returned (.map (some w.heap.size)) ∧ StM w' w.heap.size l.length ((List.map fun b : ByteArray => b.data.toList) l) ∧ Below w.heap.size w w' := by
  have HS : Hid (∀ x ∈ l, x.size ≤ 1048576) := hs
  have HB : Hid (ty.SrcS none w a l) := hb
  obtain ⟨n, hnn⟩ : ∃ n, l.length = n := ⟨_, rfl⟩
  have HN : Hid (l.length = n) := hnn
  rw [hnn] at hn ⊢
  have hmm : ∀ W : World, (Instr.makeMap 66 (some (.int .i64 (n : Int)))).run Try.prog W = .ok (.map (some W.heap.size)) (W.alloc (.map #[] 0)) := fun W => mk_set n W
  clear hs hb hnn
  go_enter Try.func41, Try.ntmps41
  go_wp2
  clear hmm
  go_loopw [5, 11] (fun _ x wr => ∃ j : Nat, j ≤ n ∧ x = .int .i64 (j : Int) ∧ StM wr w.heap.size j ((List.map fun b : ByteArray => b.data.toList) (l.take j)) ∧ w.grownBy wr (some w.heap.size)) (fun _ x _ => n - (intOf x).toNat)
  case atStart => exact ⟨0, Nat.zero_le _, rfl, ⟨.map [], World.ownsMap_made w Try.prog 9 _, fun y => by simp [Maps.has]⟩, World.grownBy_alloc w _ _⟩
  case round =>
    obtain ⟨j, hj, rfl, hst, hg⟩ := hrel
    have HST : Hid (StM wr w.heap.size j ((List.map fun b : ByteArray => b.data.toList) (l.take j))) := hst
    have HG : Hid (w.grownBy wr (some w.heap.size)) := hg
    clear hst
    by_cases hjl : j < n
    · have hjl' : (j : Int) < (n : Int) := by omega
      obtain ⟨x, hx⟩ : ∃ x, l[j]? = some x := ⟨_, List.getElem?_eq_getElem (by rw [HN.out]; exact hjl)⟩
      rcases HB.out with ⟨_, h⟩ | ⟨b, o, rfl, _, hc⟩
      · rw [h] at hx; simp at hx
      have hc0 := hc j x hx
      have hblt : b < w.heap.size := World.block_lt_of_cell? _ _ hc0
      have c0 : wr.cell? ⟨b, o + j, none⟩ = some (.string x) := hg.cell hc0 (fun e => by have := Option.some.inj e; simp at this; omega)
      have HAD : Hid (Calls Try.prog 69 #[.map (some w.heap.size), .string x] wr fun e w' => (∃ v, e = .returned v) ∧ StM w' w.heap.size (j + 1) ((List.map fun b : ByteArray => b.data.toList) (l.take (j + 1))) ∧ wr.grownBy w' (some w.heap.size)) :=
        add_any x (HS.out x (List.mem_of_getElem? hx)) w.heap.size j (by omega) _ _ (fun y => by rw [List.take_add_one, hx]; simp) wr HST.out
      clear hx hc0 hg hc
      go_wp2_with (go_at_call 69; refine HAD.out.mono ?_; rintro e w2 ⟨⟨v, rfl⟩, ho2, hg2⟩)
      go_roundw
      case rel => exact ⟨j + 1, by omega, by go_num, ho2, grown_tr HG.out hg2⟩
      case measure => simp [intOf]; omega
    · have hjl' : ¬ (j : Int) < (n : Int) := by omega
      obtain rfl : j = n := by omega
      have HE : Hid (StM wr w.heap.size j ((List.map fun b : ByteArray => b.data.toList) l)) := by
        have h := HST.out
        rwa [List.take_of_length_le (by rw [HN.out]; exact Nat.le_refl _)] at h
      clear hg
      go_wp2
      go_ret
      exact ⟨rfl, HE.out, grown_to HG.out⟩

set_option maxRecDepth 100000 in
theorem hasS_any (t : ByteArray) (ht : t.size ≤ 1048576) (b n : Nat) (L : List (List UInt8)) (w : World) (h : StM w b n L) :
    Calls Try.prog 43 #[.map (some b), .string t] w fun e w' => e = .returned (.bool (decide (t.data.toList ∈ L))) ∧ Below w.heap.size w w' := by
  obtain ⟨D, h, hh⟩ := h
  have hkey := keyS t ht
  have HE : Hid (Maps.has D (.string t.data.toList) = decide (t.data.toList ∈ L)) := by
    show _ = _
    rw [Bool.eq_iff_iff, hh, decide_eq_true_eq]
  rw [← HE.out]
  clear hh HE
  go_enter Try.func43, Try.ntmps43
  go_wp2_with (first
    | (at_lookup; refine wpList_lookup_own_unit _ rfl _ _ 66 rfl 9 94 keyedS Try.underlying66 (Try.zeroValue94 _) b n D rfl h _ _ rfl hkey ?_)
    | go_in)
  go_ret
  exact ⟨rfl, (Below.refl _ _).alloc (Nat.le_refl _) _⟩

theorem mk_setN (m : Nat) (W : World) : (Instr.makeMap 91 (some (.int .i64 (m : Int)))).run Try.prog W = .ok (.map (some W.heap.size)) (W.alloc (.map #[] 0)) := by
  simp [Instr.makeMap, go_sem]

set_option maxRecDepth 100000 in
set_option maxHeartbeats 4000000 in
theorem setOfN_any (v : Value) (l : List Nat) (w : World) (hb : fa.RdN w v l) (hn : l.length ≤ 1000) (hs : ∀ x ∈ l, x ≤ 1048576) :
    Calls Try.prog 70 #[v] w fun e w' => e = .returned (.map (some w.heap.size)) ∧ StN w' w.heap.size l.length l ∧ Below w.heap.size w w' := by
  have HS : Hid (∀ x ∈ l, x ≤ 1048576) := hs
  obtain ⟨a, cap, rfl, hc⟩ := hb
  have HB := Lib.hid hc
  obtain ⟨n, hnn⟩ : ∃ n, l.length = n := ⟨_, rfl⟩
  have HN : Hid (l.length = n) := hnn
  rw [hnn] at hn ⊢
  have hmm : ∀ W : World, (Instr.makeMap 91 (some (.int .i64 (n : Int)))).run Try.prog W = .ok (.map (some W.heap.size)) (W.alloc (.map #[] 0)) := fun W => mk_setN n W
  clear hs hc hnn
  go_enter Try.func70, Try.ntmps70
  go_wp2
  clear hmm
  go_loopw [5, 11] (fun _ x wr => ∃ j : Nat, j ≤ n ∧ x = .int .i64 (j : Int) ∧ StN wr w.heap.size j (l.take j) ∧ w.grownBy wr (some w.heap.size)) (fun _ x _ => n - (intOf x).toNat)
  case atStart => exact ⟨0, Nat.zero_le _, rfl, StN.zero w, World.grownBy_alloc w _ _⟩
  case round =>
    obtain ⟨j, hj, rfl, hst, hg⟩ := hrel
    have HST : Hid (StN wr w.heap.size j (l.take j)) := hst
    have HG : Hid (w.grownBy wr (some w.heap.size)) := hg
    clear hst
    by_cases hjl : j < n
    · have hjl' : (j : Int) < (n : Int) := by omega
      obtain ⟨x, hx⟩ : ∃ x, l[j]? = some x := ⟨_, List.getElem?_eq_getElem (by rw [HN.out]; exact hjl)⟩
      obtain ⟨b, o, rfl, hc0⟩ := HB.out j x hx
      have hblt : b < w.heap.size := World.block_lt_of_cell? _ _ hc0
      have c0 : wr.cell? ⟨b, o + j, none⟩ = some (.int .i64 (x : Int)) := hg.cell hc0 (fun e => by have := Option.some.inj e; simp at this; omega)
      have HAD : Hid (Calls Try.prog 90 #[.map (some w.heap.size), .int .i64 (x : Int)] wr fun e w' => (∃ v, e = .returned v) ∧ StN w' w.heap.size (j + 1) (l.take (j + 1)) ∧ wr.grownBy w' (some w.heap.size)) := by
        have := addN_any x (HS.out x (List.mem_of_getElem? hx)) w.heap.size j (by omega) _ wr HST.out
        rwa [show l.take j ++ [x] = l.take (j + 1) by rw [List.take_add_one, hx]; rfl] at this
      clear hx hc0 hg
      go_wp2_with (go_at_call 90; refine HAD.out.mono ?_; rintro e w2 ⟨⟨v, rfl⟩, ho2, hg2⟩)
      go_roundw
      case rel => exact ⟨j + 1, by omega, by go_num, ho2, grown_tr HG.out hg2⟩
      case measure => simp [intOf]; omega
    · have hjl' : ¬ (j : Int) < (n : Int) := by omega
      obtain rfl : j = n := by omega
      have HE : Hid (StN wr w.heap.size j l) := by
        have h := HST.out
        rwa [List.take_of_length_le (by rw [HN.out]; exact Nat.le_refl _)] at h
      clear hg
      go_wp2
      go_ret
      exact ⟨rfl, HE.out, grown_to HG.out⟩

end Go.Proofs.Ytdddplhfhpghkaa.st2
