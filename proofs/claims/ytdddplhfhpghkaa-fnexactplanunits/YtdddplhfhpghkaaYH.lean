import Derived.Test.YtdddplhfhpghkaaYE
import Derived.Deep.RegionHeld3
namespace Go.Proofs.Ytdddplhfhpghkaa.ty
open Go.ChangeShapes Go.WideShapes Go.ChangeAt Go.RowKit Go.Deep
set_option linter.unusedVariables false
set_option linter.unusedSimpArgs false

/-! ### Answers that own their memory: marks and what is held -/

/-- Only blocks lo .. hi change. -/
def Md (lo hi : Nat) (w w' : World) : Prop := (w'.os = w.os ∧ w'.tape = w.tape ∧ w'.output = w.output) ∧ w.heap.size ≤ w'.heap.size ∧ ∀ j, j < w.heap.size → (j < lo ∨ hi ≤ j) → w'.heap[j]? = w.heap[j]?
theorem Md.refl (lo hi : Nat) (w : World) : Md lo hi w w := ⟨⟨rfl, rfl, rfl⟩, Nat.le_refl _, fun _ _ _ => rfl⟩
theorem Md.trans {lo hi : Nat} {A B C : World} (h : Md lo hi A B) (k : Md lo hi B C) : Md lo hi A C := ⟨⟨k.1.1.trans h.1.1, k.1.2.1.trans h.1.2.1, k.1.2.2.trans h.1.2.2⟩, Nat.le_trans h.2.1 k.2.1, fun j hj e => (k.2.2 j (Nat.lt_of_lt_of_le hj h.2.1) e).trans (h.2.2 j hj e)⟩
theorem Md.of_below {lo hi : Nat} {A B : World} (k : Below A.heap.size A B) : Md lo hi A B := ⟨⟨k.os, k.tape, k.output⟩, k.size, fun j hj _ => k.block j hj⟩
theorem Md.below {lo hi : Nat} {A B C : World} (h : Md lo hi A B) (k : Below B.heap.size B C) : Md lo hi A C := h.trans (.of_below k)
theorem Md.set {lo hi : Nat} {A B : World} (h : Md lo hi A B) {b p : Nat} (x : Value) (hl : lo ≤ b) (hh : b < hi) : Md lo hi A (B.setCell ⟨b, p, none⟩ x) :=
  h.trans ⟨⟨rfl, rfl, rfl⟩, by simp, fun j hj e => by simp only [World.setCell]; rw [Array.getElem?_modify, if_neg (by omega)]⟩
theorem Md.wide {lo hi lo' hi' : Nat} {A B : World} (h : Md lo hi A B) (h1 : lo' ≤ lo) (h2 : hi ≤ hi') : Md lo' hi' A B := ⟨h.1, h.2.1, fun j hj e => h.2.2 j hj (by omega)⟩
theorem Md.toBelow {lo hi B : Nat} {w w' : World} (h : Md lo hi w w') (hB : B ≤ lo) (hs : B ≤ w.heap.size) : Below B w w' := ⟨h.1.1, h.1.2.1, h.1.2.2, h.2.1, fun j hj => h.2.2 j (by omega) (.inl (by omega))⟩
/-- Only block b and blocks s .. e change. -/
def Fr (b s e : Nat) (w w' : World) : Prop := (w'.os = w.os ∧ w'.tape = w.tape ∧ w'.output = w.output) ∧ w.heap.size ≤ w'.heap.size ∧ ∀ j, j < w.heap.size → j ≠ b → (j < s ∨ e ≤ j) → w'.heap[j]? = w.heap[j]?
theorem Fr.refl (b s e : Nat) (w : World) : Fr b s e w w := ⟨⟨rfl, rfl, rfl⟩, Nat.le_refl _, fun _ _ _ _ => rfl⟩
theorem Fr.trans {b s e : Nat} {A B C : World} (h : Fr b s e A B) (k : Fr b s e B C) : Fr b s e A C := ⟨⟨k.1.1.trans h.1.1, k.1.2.1.trans h.1.2.1, k.1.2.2.trans h.1.2.2⟩, Nat.le_trans h.2.1 k.2.1, fun j hj e1 e2 => (k.2.2 j (Nat.lt_of_lt_of_le hj h.2.1) e1 e2).trans (h.2.2 j hj e1 e2)⟩
theorem Fr.below {b s e : Nat} {A B C : World} (h : Fr b s e A B) (k : Below B.heap.size B C) : Fr b s e A C := h.trans ⟨⟨k.os, k.tape, k.output⟩, k.size, fun j hj _ _ => k.block j hj⟩
theorem Fr.set {b s e : Nat} {A B : World} (h : Fr b s e A B) (p : Nat) (x : Value) : Fr b s e A (B.setCell ⟨b, p, none⟩ x) :=
  h.trans ⟨⟨rfl, rfl, rfl⟩, by simp, fun j hj e _ => by simp only [World.setCell]; rw [Array.getElem?_modify, if_neg (fun h => e h.symm)]⟩
theorem Fr.md {b s e s' e' : Nat} {A B C : World} (h : Fr b s e A B) (k : Md s' e' B C) (h1 : s ≤ s') (h2 : e' ≤ e) : Fr b s e A C := h.trans ⟨k.1, k.2.1, fun j hj _ e => k.2.2 j hj (by omega)⟩
theorem Fr.to {b s e lo hi : Nat} {A B : World} (h : Fr b s e A B) (h1 : lo ≤ b) (h2 : b < hi) (h3 : lo ≤ s) (h4 : e ≤ hi) : Md lo hi A B := ⟨h.1, h.2.1, fun j hj e => h.2.2 j hj (by omega) (by omega)⟩
theorem sb {W : World} {b p q : Nat} {v : Value} (h : q ≠ b) : (W.setCell ⟨b, p, none⟩ v).heap[q]? = W.heap[q]? := by simp only [World.setCell]; rw [Array.getElem?_modify, if_neg (fun e => h e.symm)]
theorem kp_below {b s e : Nat} {cur X w' : World} (hX : ∀ p, p ≠ b → X.heap[p]? = cur.heap[p]?) (hz : cur.heap.size ≤ X.heap.size) (hb : Below X.heap.size X w') (he : e ≤ cur.heap.size) (hbs : b < s ∨ e ≤ b) : ∀ p, s ≤ p → p < e → w'.heap[p]? = cur.heap[p]? :=
  fun p h1 h2 => (hb.block p (by omega)).trans (hX p (by omega))
theorem kp_md {b s e s' e' : Nat} {cur X w' : World} (hX : ∀ p, p ≠ b → X.heap[p]? = cur.heap[p]?) (hz : cur.heap.size ≤ X.heap.size) (hb : Md s' e' X w') (he : e ≤ cur.heap.size) (hbs : b < s ∨ e ≤ b) (hd : e ≤ s' ∨ e' ≤ s) : ∀ p, s ≤ p → p < e → w'.heap[p]? = cur.heap[p]? :=
  fun p h1 h2 => (hb.2.2 p (by omega) (by omega)).trans (hX p (by omega))
def up (f : Nat → Value) (p : Nat) (v : Value) : Nat → Value := fun j => if j = p then v else f j
theorem up_same (f : Nat → Value) (p : Nat) (v : Value) : up f p v p = v := by unfold up; rw [if_pos rfl]
theorem up_at {f : Nat → Value} {p q : Nat} {v : Value} (h : q = p) : up f p v q = v := by subst h; exact up_same _ _ _
theorem up_oth {f : Nat → Value} {p q : Nat} {v : Value} (h : q ≠ p) : up f p v q = f q := by unfold up; rw [if_neg h]
theorem row_up {w : World} {b t N : Nat} {f : Nat → Value} (h : w.rowIs b t N f) (p : Nat) (v : Value) : (w.setCell ⟨b, p, none⟩ v).rowIs b t N (up f p v) := h.set p v

/-- Texts. -/
def GS (lo hi : Nat) (w : World) (a : Option Addr) (l : List ByteArray) : Prop := ∃ b o t N f, a = some ⟨b, o, none⟩ ∧ lo ≤ b ∧ b < hi ∧ w.rowIs b t N f ∧ o + l.length ≤ N ∧ ∀ (i : Nat) (x : ByteArray), l[i]? = some x → f (o + i) = .string x
theorem GS.kept {lo hi : Nat} {w w' : World} {a : Option Addr} {l : List ByteArray} (h : GS lo hi w a l) (hk : ∀ p, lo ≤ p → p < hi → w'.heap[p]? = w.heap[p]?) : GS lo hi w' a l := by
  obtain ⟨b, o, t, N, f, e, h1, h2, h3, h4⟩ := h
  exact ⟨b, o, t, N, f, e, h1, h2, h3.of_block (hk b h1 h2), h4⟩
theorem GS.wide {lo hi lo' hi' : Nat} {w : World} {a : Option Addr} {l : List ByteArray} (h : GS lo hi w a l) (g1 : lo' ≤ lo) (g2 : hi ≤ hi') : GS lo' hi' w a l := by
  obtain ⟨b, o, t, N, f, e, h1, h2, h3, h4⟩ := h
  exact ⟨b, o, t, N, f, e, by omega, by omega, h3, h4⟩
theorem GS.src {lo hi : Nat} {w : World} {a : Option Addr} {l : List ByteArray} (h : GS lo hi w a l) : SrcS none w a l := by
  obtain ⟨b, o, t, N, f, e, h1, h2, h3, h4, h5⟩ := h
  refine .inr ⟨b, o, e, Okb.free _ _, fun i x hx => ?_⟩
  rw [h3.cell (i := o + i) (by have := (List.getElem?_eq_some_iff.1 hx).1; omega), h5 i x hx]
def mkS (k : Nat) (l : List ByteArray) : List ByteArray := l.mapIdx fun i _ => sr.mark (k + i)
theorem mkS_len (k : Nat) (l : List ByteArray) : (mkS k l).length = l.length := by simp [mkS]
theorem mkS_at {k : Nat} {l : List ByteArray} {i : Nat} {x : ByteArray} (h : l[i]? = some x) : (mkS k l)[i]? = some (sr.mark (k + i)) := by simp [mkS, h]
theorem mkS_of {k : Nat} {l : List ByteArray} {i : Nat} {y : ByteArray} (h : (mkS k l)[i]? = some y) : ∃ x, l[i]? = some x ∧ y = sr.mark (k + i) := by
  have hi := (List.getElem?_eq_some_iff.1 h).1
  rw [mkS_len] at hi
  have hx := List.getElem?_eq_getElem hi
  rw [mkS_at hx] at h
  exact ⟨_, hx, (Option.some.inj h).symm⟩

set_option maxRecDepth 100000 in
set_option maxHeartbeats 1000000 in
theorem markGS_any (lo hi : Nat) (a : Option Addr) (c : Nat) (l : List ByteArray) (k0 : Nat) (w : World) (hG : GS lo hi w a l) (hhi : hi ≤ w.heap.size) (h0 : 0 < k0) (hk : k0 + cnS l ≤ 100000000) :
    Calls Try.prog 13 #[.slice a l.length c, .int .i64 (k0 : Int)] w fun e w' => e = .returned (.int .i64 ((k0 + cnS l : Nat) : Int)) ∧ GS lo hi w' a (mkS k0 l) ∧ Md lo hi w w' := by
  obtain ⟨b, o, t, N, f0, rfl, hl, hh, hrow, hN, hv⟩ := hG
  have HV : Hid (∀ (i : Nat) (x : ByteArray), l[i]? = some x → f0 (o + i) = .string x) := hv
  have HR0 : Hid (w.rowIs b t N f0) := hrow
  unfold cnS at hk ⊢
  obtain ⟨n, hn⟩ : ∃ n, l.length = n := ⟨_, rfl⟩
  have HNN : Hid (l.length = n) := hn
  rw [hn] at hk hN ⊢
  clear hrow hv hn
  go_enter Try.func13, Try.ntmps13
  go_wp2
  go_loopw [1, 5] (fun a x wr => ∃ (i : Nat) (f : Nat → Value), i ≤ n ∧ x = .int .i64 (i : Int) ∧ a = .int .i64 ((k0 + i : Nat) : Int) ∧ wr.rowIs b t N f ∧ (∀ j, j < i → f (o + j) = .string (sr.mark (k0 + j))) ∧ Md lo hi w wr) (fun _ x _ => n - (intOf x).toNat)
  case atStart => exact ⟨0, f0, Nat.zero_le _, rfl, rfl, HR0.out, fun j h => by omega, Md.refl _ _ _⟩
  case round =>
    obtain ⟨i, f, hi', rfl, rfl, hrow, hval, hmd⟩ := hrel
    have HRW : Hid (wr.rowIs b t N f) := hrow
    have HVL : Hid (∀ j, j < i → f (o + j) = .string (sr.mark (k0 + j))) := hval
    have HMD : Hid (Md lo hi w wr) := hmd
    clear hrow hval hmd
    by_cases h : i < n
    · have h' : (i : Int) < (n : Int) := by omega
      obtain ⟨K, hK⟩ : ∃ K : Nat, k0 + i = K := ⟨_, rfl⟩
      have HKK : Hid (k0 + i = K) := hK
      have HMT : Hid (∀ W, Calls Try.prog 36 #[.int .i64 (K : Int)] W fun e w' => e = .returned (.string (sr.mark K)) ∧ Below W.heap.size W w') := fun W => sr.mark_any K (by omega) (by omega) W
      rw [hK]
      have hKb : K ≤ 100000000 := by omega
      obtain ⟨s, hs⟩ : ∃ s, sr.mark K = s := ⟨_, rfl⟩
      have HSS : Hid (sr.mark K = s) := hs
      rw [hs] at HMT
      clear hK hs
      go_wp2_with (go_at_call 36; refine (HMT.out _).mono ?_; rintro e w1 ⟨rfl, hb1⟩; refine Hid.out ?_)
      refine Lib.hid ?_
      have HR1 : Hid (w1.rowIs b t N f) := HRW.out.of_block (hb1.block b HRW.out.lt)
      have HM1 : Hid (Md lo hi w w1) := HMD.out.below hb1
      have g1 := HR1.out.cell (i := o + i) (by omega)
      have f1 := HR1.out.frozen (o + i)
      have HR2 : Hid ((w1.setCell ⟨b, o + i, none⟩ (.string s)).rowIs b t N (up f (o + i) (.string s))) := row_up HR1.out _ _
      have HM2 : Hid (Md lo hi w (w1.setCell ⟨b, o + i, none⟩ (.string s))) := HM1.out.set _ hl hh
      have HV2 : Hid (∀ j, j < i + 1 → up f (o + i) (.string s) (o + j) = .string (sr.mark (k0 + j))) := fun j hj => by
        by_cases e : j = i
        · subst e
          rw [up_same, HKK.out, HSS.out]
        · rw [up_oth (by omega)]
          exact HVL.out j (by omega)
      clear hb1
      go_wp2
      go_roundw
      case rel => exact ⟨i + 1, _, by omega, by go_num, by rw [← Nat.add_assoc, HKK.out]; go_num, HR2.out, HV2.out, HM2.out⟩
      case measure => simp [intOf]; omega
    · have h' : ¬ (i : Int) < (n : Int) := by omega
      obtain rfl : i = n := by omega
      have HE : Hid (GS lo hi wr (some ⟨b, o, none⟩) (mkS k0 l)) := ⟨b, o, t, N, f, rfl, hl, hh, HRW.out, by rw [mkS_len, HNN.out]; exact hN, fun j y hy => by
        obtain ⟨x, hx, rfl⟩ := mkS_of hy
        exact HVL.out j (by have := (List.getElem?_eq_some_iff.1 hx).1; have := HNN.out; omega)⟩
      go_wp2
      go_ret
      exact ⟨rfl, HE.out, HMD.out⟩

set_option maxRecDepth 100000 in
set_option maxHeartbeats 2000000 in
theorem heldS_any (a : Option Addr) (c : Nat) (l : List ByteArray) (k0 : Nat) (w : World) (hR : SrcS none w a (mkS k0 l)) (h0 : 0 < k0) (hk : k0 + cnS l ≤ 100000000) :
    Calls Try.prog 14 #[.slice a l.length c, .int .i64 (k0 : Int)] w fun e w' => e = .returned (.int .i64 ((k0 + cnS l : Nat) : Int)) ∧ Below w.heap.size w w' := by
  have HER : Hid (SrcS none w a (mkS k0 l)) := hR
  unfold cnS at hk ⊢
  obtain ⟨n, hn⟩ : ∃ n, l.length = n := ⟨_, rfl⟩
  have HNN : Hid (l.length = n) := hn
  rw [hn] at hk ⊢
  clear hR hn
  go_enter Try.func14, Try.ntmps14
  go_wp2
  go_loopw [1, 5] (fun v x wr => ∃ (i : Nat), i ≤ n ∧ x = .int .i64 (i : Int) ∧ v = .int .i64 ((k0 + i : Nat) : Int) ∧ Below w.heap.size w wr) (fun _ x _ => n - (intOf x).toNat)
  case atStart => exact ⟨0, Nat.zero_le _, rfl, rfl, Below.refl _ _⟩
  case round =>
    obtain ⟨i, hi, rfl, rfl, hbel⟩ := hrel
    by_cases h : i < n
    · have h' : (i : Int) < (n : Int) := by omega
      have HBB : Hid (Below w.heap.size w wr) := hbel
      obtain ⟨x, hx⟩ : ∃ x, l[i]? = some x := ⟨_, List.getElem?_eq_getElem (by rw [HNN.out]; exact h)⟩
      rcases HER.out with he | ⟨b, o, rfl, _, hc⟩
      · have := congrArg List.length he.2; rw [mkS_len, HNN.out] at this; simp at this; omega
      have hcl := hc i _ (mkS_at hx)
      obtain ⟨K, hK⟩ : ∃ K : Nat, k0 + i = K := ⟨_, rfl⟩
      rw [hK] at hcl
      have HKK : Hid (k0 + i = K) := hK
      rw [hK]
      have hKb : K ≤ 100000000 := by omega
      have hK0 : 0 < K := by omega
      have HM1 : Hid (∀ W, Calls Try.prog 36 #[.int .i64 (K : Int)] W fun e w' => e = .returned (.string (sr.mark K)) ∧ Below W.heap.size W w') := fun W => sr.mark_any K hK0 (by omega) W
      obtain ⟨s, hs⟩ : ∃ s, sr.mark K = s := ⟨_, rfl⟩
      rw [hs] at HM1 hcl
      have HCd : Hid (∀ W, Below w.heap.size w W → W.cell? ⟨b, o + i, none⟩ = some (.string s)) := fun W hW => (hW.cell (p := ⟨b, o + i, none⟩) (World.block_lt_of_cell? _ _ hcl)).trans hcl
      clear hs hK hcl hc hx hbel
      have d1 := HCd.out wr HBB.out
      go_wp2_with fail
      go_region_held3 (fun w' => w'.cell? ⟨b, o + i, none⟩ = some (.string s))
        (first
          | go_keep
          | exact HCd.out _ (HBB.out.drew.trans (hb1.mono HBB.out.size)))
        (first | ((go_at_call 36; refine (HM1.out _).mono ?_; rintro e w1 ⟨rfl, hb1⟩)))
      have HB1 : Hid (Below w.heap.size w w1) := HBB.out.drew.trans (hb1.mono HBB.out.size)
      clear hb1 d1
      go_wp2_with fail
      go_roundw
      case rel => exact ⟨i + 1, by omega, by go_num, by rw [← Nat.add_assoc, HKK.out]; go_num, HB1.out⟩
      case measure => simp [intOf]; omega
    · have h' : ¬ (i : Int) < (n : Int) := by omega
      obtain rfl : i = n := by omega
      go_wp2
      go_ret
      exact ⟨rfl, hbel⟩

def mk1Ac (k : Nat) (x : Ac) : Ac := ⟨((k : Nat) : Int), sr.mark (k + 1)⟩
def mkAc (k : Nat) (l : List Ac) : List Ac := l.mapIdx fun i x => mk1Ac (k + cnkAc l i) x
theorem mkAc_len (k : Nat) (l : List Ac) : (mkAc k l).length = l.length := by simp [mkAc]
theorem mkAc_at {k : Nat} {l : List Ac} {i : Nat} {x : Ac} (h : l[i]? = some x) : (mkAc k l)[i]? = some (mk1Ac (k + cnkAc l i) x) := by simp [mkAc, h]
theorem mkAc_of {k : Nat} {l : List Ac} {i : Nat} {y : Ac} (h : (mkAc k l)[i]? = some y) : ∃ x, l[i]? = some x ∧ y = mk1Ac (k + cnkAc l i) x := by
  have hi := (List.getElem?_eq_some_iff.1 h).1
  rw [mkAc_len] at hi
  have hx := List.getElem?_eq_getElem hi
  rw [mkAc_at hx] at h
  exact ⟨_, hx, (Option.some.inj h).symm⟩
/-- One of them, out of a row's cells. -/
def E1Ac (lo hi : Nat) (w : World) (g : Nat → Value) (x : Ac) : Prop := g 0 = .int .i64 x.fKind ∧ g 1 = .string x.fName
theorem E1Ac.kept {lo hi : Nat} {w w' : World} {g g' : Nat → Value} {x : Ac} (h : E1Ac lo hi w g x) (hg : ∀ r, r < 2 → g' r = g r) (hk : ∀ p, lo ≤ p → p < hi → w'.heap[p]? = w.heap[p]?) : E1Ac lo hi w' g' x := by
  obtain ⟨q0, q1⟩ := h
  exact ⟨(hg 0 (by omega)).trans q0, (hg 1 (by omega)).trans q1⟩
theorem E1Ac.wide {lo hi lo' hi' : Nat} {w : World} {g : Nat → Value} {x : Ac} (h : E1Ac lo hi w g x) (g1 : lo' ≤ lo) (g2 : hi ≤ hi') : E1Ac lo' hi' w g x := by
  obtain ⟨q0, q1⟩ := h
  exact ⟨q0, q1⟩
def GAc (lo hi : Nat) (w : World) (a : Option Addr) (l : List Ac) : Prop := ∃ b o t N f, ∃ s e : Nat → Nat, a = some ⟨b, o, none⟩ ∧ lo ≤ b ∧ b < hi ∧ w.rowIs b t N f ∧ o + l.length * 2 ≤ N ∧ (∀ (i : Nat) (x : Ac), l[i]? = some x → lo ≤ s i ∧ e i ≤ hi ∧ (b < s i ∨ e i ≤ b) ∧ E1Ac (s i) (e i) w (fun r => f (o + i * 2 + r)) x) ∧ (∀ i j, i < j → j < l.length → e i ≤ s j ∨ e j ≤ s i)
theorem GAc.kept {lo hi : Nat} {w w' : World} {a : Option Addr} {l : List Ac} (h : GAc lo hi w a l) (hk : ∀ p, lo ≤ p → p < hi → w'.heap[p]? = w.heap[p]?) : GAc lo hi w' a l := by
  obtain ⟨b, o, t, N, f, s, e, h0, h1, h2, h3, h4, h5, h6⟩ := h
  exact ⟨b, o, t, N, f, s, e, h0, h1, h2, h3.of_block (hk b h1 h2), h4, fun i x hx => by
    obtain ⟨k1, k2, k3, k4⟩ := h5 i x hx
    exact ⟨k1, k2, k3, k4.kept (fun _ _ => rfl) fun p g1 g2 => hk p (by omega) (by omega)⟩, h6⟩
theorem GAc.wide {lo hi lo' hi' : Nat} {w : World} {a : Option Addr} {l : List Ac} (h : GAc lo hi w a l) (g1 : lo' ≤ lo) (g2 : hi ≤ hi') : GAc lo' hi' w a l := by
  obtain ⟨b, o, t, N, f, s, e, h0, h1, h2, h3, h4, h5, h6⟩ := h
  exact ⟨b, o, t, N, f, s, e, h0, by omega, by omega, h3, h4, fun i x hx => by
    obtain ⟨k1, k2, k3, k4⟩ := h5 i x hx
    exact ⟨by omega, by omega, k3, k4⟩, h6⟩
theorem GAc.src {lo hi : Nat} {w : World} {a : Option Addr} {l : List Ac} (h : GAc lo hi w a l) : SrcAc none w a l := by
  obtain ⟨b, o, t, N, f, s, e, h0, h1, h2, h3, h4, h5, h6⟩ := h
  refine .inr ⟨b, o, h0, Okb.free _ _, fun i x hx => ?_⟩
  have hi := (List.getElem?_eq_some_iff.1 hx).1
  obtain ⟨k1, k2, k3, k4⟩ := h5 i x hx
  obtain ⟨q0, q1⟩ := k4
  exact ⟨(h3.cell (i := o + i * 2) (by omega)).trans (congrArg some q0), (h3.cell (i := o + i * 2 + 1) (by omega)).trans (congrArg some q1)⟩

set_option maxRecDepth 100000 in
set_option maxHeartbeats 4000000 in
theorem markGAc_any (lo hi : Nat) (a : Option Addr) (c : Nat) (l : List Ac) (k0 : Nat) (w : World) (hG : GAc lo hi w a l) (hhi : hi ≤ w.heap.size) (h0 : 0 < k0) (hk : k0 + cnAc l ≤ 100000000) :
    Calls Try.prog 22 #[.slice a l.length c, .int .i64 (k0 : Int)] w fun e w' => e = .returned (.int .i64 ((k0 + cnAc l : Nat) : Int)) ∧ GAc lo hi w' a (mkAc k0 l) ∧ Md lo hi w w' := by
  obtain ⟨b, o, t, N, f0, s, e, rfl, hl, hh, hrow, hN, hel, hdis⟩ := hG
  have HRZ : Hid (w.rowIs b t N f0) := hrow
  have HEZ : Hid (∀ (i : Nat) (x : Ac), l[i]? = some x → lo ≤ s i ∧ e i ≤ hi ∧ (b < s i ∨ e i ≤ b) ∧ E1Ac (s i) (e i) w (fun r => f0 (o + i * 2 + r)) x) := hel
  have HDI : Hid (∀ i j, i < j → j < l.length → e i ≤ s j ∨ e j ≤ s i) := hdis
  have HCL : Hid (∀ k, cnkAc l k ≤ cnAc l) := cnkAc_le l
  have HKL : Hid (k0 + cnAc l ≤ 100000000) := hk
  clear hrow hel hdis hk
  obtain ⟨n, hn⟩ : ∃ n, l.length = n := ⟨_, rfl⟩
  have HN : Hid (l.length = n) := hn
  have hn9 : n ≤ 100000000 := by have h1 := cnAc_len l; have h2 := HKL.out; omega
  rw [hn] at hN ⊢
  clear hn
  go_enter Try.func22, Try.ntmps22
  go_wp2
  go_loopw [1, 5] (fun a x wr => ∃ (i : Nat) (f : Nat → Value), i ≤ n ∧ x = .int .i64 (i : Int) ∧ a = .int .i64 ((k0 + cnkAc l i : Nat) : Int) ∧ wr.rowIs b t N f ∧ (∀ (j : Nat) (y : Ac), l[j]? = some y → E1Ac (s j) (e j) wr (fun r => f (o + j * 2 + r)) (if j < i then mk1Ac (k0 + cnkAc l j) y else y)) ∧ Md lo hi w wr) (fun _ x _ => n - (intOf x).toNat)
  case atStart => exact ⟨0, f0, Nat.zero_le _, rfl, by simp [cnkAc], HRZ.out, fun j y hy => (HEZ.out j y hy).2.2.2, Md.refl _ _ _⟩
  case round =>
    obtain ⟨i, f, hi', rfl, rfl, hrow, hel, hmd⟩ := hrel
    have HRW : Hid (wr.rowIs b t N f) := hrow
    have HEL : Hid (∀ (j : Nat) (y : Ac), l[j]? = some y → E1Ac (s j) (e j) wr (fun r => f (o + j * 2 + r)) (if j < i then mk1Ac (k0 + cnkAc l j) y else y)) := hel
    have HMD : Hid (Md lo hi w wr) := hmd
    have hhr : hi ≤ wr.heap.size := by have := hmd.2.1; omega
    clear hrow hel hmd
    by_cases h : i < n
    · have h' : (i : Int) < (n : Int) := by omega
      have hi0 : (0 : Int) ≤ (i : Int) := by omega
      obtain ⟨x, hx⟩ : ∃ x, l[i]? = some x := ⟨_, List.getElem?_eq_getElem (by rw [HN.out]; exact h)⟩
      have HX : Hid (l[i]? = some x) := hx
      have HSU : Hid (cnkAc l (i + 1) = cnkAc l i + cn1Ac x) := cnkAc_succ hx
      obtain ⟨hs1, hs2, hs3, _⟩ := HEZ.out i x hx
      have hE := HEL.out i x hx
      rw [if_neg (Nat.lt_irrefl i)] at hE
      obtain ⟨q0, q1⟩ := hE
      have q0 : f (o + i * 2 + 0) = .int .i64 x.fKind := q0
      have q1 : f (o + i * 2 + 1) = .string x.fName := q1

      have HF0 : Hid (Fr b (s i) (e i) wr wr) := Fr.refl _ _ _ _
      obtain ⟨K0, hK0⟩ : ∃ K : Nat, k0 + cnkAc l i = K := ⟨_, rfl⟩
      have HKK : Hid (k0 + cnkAc l i = K0) := hK0
      have HCB : Hid (K0 + cn1Ac x ≤ 100000000) := by
        show _ ≤ _
        have h1 := HCL.out (i + 1)
        have h2 := HKL.out
        have h3 := HSU.out
        omega
      have hK0b : K0 ≤ 100000000 := by have := HCB.out; omega
      have hK0c : K0 + 2 ≤ 100000000 := by have h9 := HCB.out; unfold cn1Ac at h9; omega
      have hK0p : 0 < K0 := by omega
      rw [hK0]
      clear hK0 hx
      have g0 := HRW.out.cell (i := o + i * 2) (by omega)
      have z0 := HRW.out.frozen (o + i * 2)
      have HR1 : Hid ((wr.setCell ⟨b, o + i * 2, none⟩ (.int .i64 ((K0 : Int)))).rowIs b t N (up (f) (o + i * 2) (.int .i64 ((K0 : Int))))) := row_up HRW.out _ _
      have HF1 : Hid (Fr b (s i) (e i) wr (wr.setCell ⟨b, o + i * 2, none⟩ (.int .i64 ((K0 : Int))))) := HF0.out.set _ _
      have HM1 : Hid (∀ W, Calls Try.prog 36 #[.int .i64 ((K0 : Int) + 1)] W fun e w' => e = .returned (.string (sr.mark (K0 + 1))) ∧ Below W.heap.size W w') := fun W => by
        have := sr.mark_any (K0 + 1) (by omega) (by omega) W
        rwa [show ((K0 + 1 : Nat) : Int) = (K0 : Int) + 1 by omega] at this
      obtain ⟨y1, hy1⟩ : ∃ y, sr.mark (K0 + 1) = y := ⟨_, rfl⟩
      have HY1 : Hid (sr.mark (K0 + 1) = y1) := hy1
      rw [hy1] at HM1
      clear hy1
      go_wp2_with (go_at_call 36; refine (HM1.out _).mono ?_; rintro e w1 ⟨rfl, hb⟩; refine Hid.out ?_)
      refine Lib.hid ?_
      have HR2 : Hid (w1.rowIs b t N (up (f) (o + i * 2) (.int .i64 ((K0 : Int))))) := HR1.out.of_block (hb.block b HR1.out.lt)
      have HF2 : Hid (Fr b (s i) (e i) wr w1) := HF1.out.below hb
      clear hb HM1 g0 z0
      have g1 := HR2.out.cell (i := o + i * 2 + 1) (by omega)
      have z1 := HR2.out.frozen (o + i * 2 + 1)
      have HR3 : Hid ((w1.setCell ⟨b, o + i * 2 + 1, none⟩ (.string y1)).rowIs b t N (up (up (f) (o + i * 2) (.int .i64 ((K0 : Int)))) (o + i * 2 + 1) (.string y1))) := row_up HR2.out _ _
      have HF3 : Hid (Fr b (s i) (e i) wr (w1.setCell ⟨b, o + i * 2 + 1, none⟩ (.string y1))) := HF2.out.set _ _
      have HEN : Hid (E1Ac (s i) (e i) (w1.setCell ⟨b, o + i * 2 + 1, none⟩ (.string y1)) (fun r => (up (up (f) (o + i * 2) (.int .i64 ((K0 : Int)))) (o + i * 2 + 1) (.string y1)) (o + i * 2 + r)) (mk1Ac K0 x)) := ⟨(by show (up (up (f) (o + i * 2) (.int .i64 ((K0 : Int)))) (o + i * 2 + 1) (.string y1)) (o + i * 2 + 0) = .int .i64 (((K0 : Nat)) : Int); exact (up_oth (by omega)).trans ((up_at (by omega)).trans (congrArg (Value.int .i64) (by  omega)))), (by show (up (up (f) (o + i * 2) (.int .i64 ((K0 : Int)))) (o + i * 2 + 1) (.string y1)) (o + i * 2 + 1) = .string (sr.mark (K0 + 1)); exact (up_at (by omega)).trans (congrArg Value.string (HY1.out.symm.trans (congrArg sr.mark (by  omega)))))⟩
      have HEA : Hid (∀ (j : Nat) (y : Ac), l[j]? = some y → E1Ac (s j) (e j) (w1.setCell ⟨b, o + i * 2 + 1, none⟩ (.string y1)) (fun r => (up (up (f) (o + i * 2) (.int .i64 ((K0 : Int)))) (o + i * 2 + 1) (.string y1)) (o + j * 2 + r)) (if j < i + 1 then mk1Ac (k0 + cnkAc l j) y else y)) := fun j y hy => by
        by_cases hji : j = i
        · subst hji
          have hxy : x = y := Option.some.inj (HX.out.symm.trans hy)
          rw [if_pos (by omega), HKK.out, ← hxy]
          exact HEN.out
        · have hold := HEL.out j y hy
          rw [show (if j < i + 1 then mk1Ac (k0 + cnkAc l j) y else y) = (if j < i then mk1Ac (k0 + cnkAc l j) y else y) by by_cases hj2 : j < i <;> simp [hj2] <;> omega]
          have hjl := (List.getElem?_eq_some_iff.1 hy).1
          have hil : i < l.length := by rw [HN.out]; exact h
          obtain ⟨u1, u2, u3, _⟩ := HEZ.out j y hy
          have hdj : e i ≤ s j ∨ e j ≤ s i := by
            rcases Nat.lt_or_ge j i with h9 | h9
            · exact (HDI.out j i h9 hil).symm
            · exact HDI.out i j (by omega) hjl
          exact hold.kept (fun r hr => (by show (up (up (f) (o + i * 2) (.int .i64 ((K0 : Int)))) (o + i * 2 + 1) (.string y1)) (o + j * 2 + r) = f (o + j * 2 + r); exact (up_oth (by omega)).trans ((up_oth (by omega)).trans (rfl)))) (fun p p1 p2 => HF3.out.2.2 p (by omega) (by omega) (by omega))
      have HME : Hid (Md lo hi w (w1.setCell ⟨b, o + i * 2 + 1, none⟩ (.string y1))) := HMD.out.trans (HF3.out.to hl hh hs1 hs2)
      clear q0 q1
      go_wp2
      go_roundw
      case rel => exact ⟨i + 1, _, by omega, by go_num, by (rw [HSU.out]; unfold cn1Ac;  have := HKK.out; go_num), HR3.out, HEA.out, HME.out⟩
      case measure => simp [intOf]; omega
    · have h' : ¬ (i : Int) < (n : Int) := by omega
      obtain rfl : i = n := by omega
      have HE : Hid (cnkAc l i = cnAc l) := by show _ = _; unfold cnAc; rw [HN.out]
      rw [HE.out]
      have HGE : Hid (GAc lo hi wr (some ⟨b, o, none⟩) (mkAc k0 l)) := ⟨b, o, t, N, f, s, e, rfl, hl, hh, HRW.out, by rw [mkAc_len, HN.out]; exact hN, fun j y hy => by
        obtain ⟨x, hx, rfl⟩ := mkAc_of hy
        obtain ⟨u1, u2, u3, _⟩ := HEZ.out j x hx
        have := HEL.out j x hx
        rw [if_pos (by have := (List.getElem?_eq_some_iff.1 hx).1; have := HN.out; omega)] at this
        exact ⟨u1, u2, u3, this⟩, fun p q h1 h2 => HDI.out p q h1 (by rw [mkAc_len] at h2; exact h2)⟩
      go_wp2
      go_ret
      exact ⟨rfl, HGE.out, HMD.out⟩

set_option maxRecDepth 100000 in
set_option maxHeartbeats 4000000 in
theorem heldAc_any (a : Option Addr) (c : Nat) (l : List Ac) (k0 : Nat) (w : World) (hR : SrcAc none w a (mkAc k0 l)) (h0 : 0 < k0) (hk : k0 + cnAc l ≤ 100000000) :
    Calls Try.prog 23 #[.slice a l.length c, .int .i64 (k0 : Int)] w fun e w' => e = .returned (.int .i64 ((k0 + cnAc l : Nat) : Int)) ∧ Below w.heap.size w w' := by
  have HER : Hid (SrcAc none w a (mkAc k0 l)) := hR
  have HCL : Hid (∀ k, cnkAc l k ≤ cnAc l) := cnkAc_le l
  have HKL : Hid (k0 + cnAc l ≤ 100000000) := hk
  obtain ⟨n, hn⟩ : ∃ n, l.length = n := ⟨_, rfl⟩
  have HNN : Hid (l.length = n) := hn
  have hn9 : n ≤ 100000000 := by have h1 := cnAc_len l; have h2 := HKL.out; omega
  rw [hn]
  clear hR hn hk
  go_enter Try.func23, Try.ntmps23
  go_wp2
  go_loopw [1, 5] (fun v x wr => ∃ (i : Nat), i ≤ n ∧ x = .int .i64 (i : Int) ∧ v = .int .i64 ((k0 + cnkAc l i : Nat) : Int) ∧ Below w.heap.size w wr) (fun _ x _ => n - (intOf x).toNat)
  case atStart => exact ⟨0, Nat.zero_le _, rfl, by simp [cnkAc], Below.refl _ _⟩
  case round =>
    obtain ⟨i, hi, rfl, rfl, hbel⟩ := hrel
    have HBB : Hid (Below w.heap.size w wr) := hbel
    clear hbel
    by_cases h : i < n
    · have h' : (i : Int) < (n : Int) := by omega
      have hi0 : (0 : Int) ≤ (i : Int) := by omega
      obtain ⟨x, hx⟩ : ∃ x, l[i]? = some x := ⟨_, List.getElem?_eq_getElem (by rw [HNN.out]; exact h)⟩
      have HX : Hid (l[i]? = some x) := hx
      have HSU : Hid (cnkAc l (i + 1) = cnkAc l i + cn1Ac x) := cnkAc_succ hx
      rcases HER.out with he | ⟨b, o, rfl, _, hc⟩
      · have := congrArg List.length he.2; rw [mkAc_len, HNN.out] at this; simp at this; omega
      have hcx := hc i _ (mkAc_at hx)
      obtain ⟨K0, hK0⟩ : ∃ K : Nat, k0 + cnkAc l i = K := ⟨_, rfl⟩
      rw [hK0] at hcx
      have HKK : Hid (k0 + cnkAc l i = K0) := hK0
      have HCB : Hid (K0 + cn1Ac x ≤ 100000000) := by
        show _ ≤ _
        have h1 := HCL.out (i + 1)
        have h2 := HKL.out
        have h3 := HSU.out
        omega
      have hK0b : K0 ≤ 100000000 := by have := HCB.out; omega
      have hK0c : K0 + 2 ≤ 100000000 := by have h9 := HCB.out; unfold cn1Ac at h9; omega
      have hK0p : 0 < K0 := by omega
      rw [hK0]
      obtain ⟨e0, e1⟩ := hcx
      have HC : Hid (∀ W, Below w.heap.size w W → W.cell? ⟨b, o + i * 2, none⟩ = some (.int .i64 (((K0 : Nat)) : Int)) ∧ W.cell? ⟨b, o + i * 2 + 1, none⟩ = some (.string (sr.mark (K0 + 1)))) := fun W hW => by
        have kk : ∀ {p v}, w.cell? ⟨b, p, none⟩ = some v → W.cell? ⟨b, p, none⟩ = some v := fun {p v} h => (hW.cell (p := ⟨b, p, none⟩) (World.block_lt_of_cell? _ _ h)).trans h
        exact ⟨kk e0, kk e1⟩

      obtain ⟨y1, hy1⟩ : ∃ y, sr.mark (K0 + 1) = y := ⟨_, rfl⟩
      have HY1 : Hid (sr.mark (K0 + 1) = y1) := hy1
      rw [hy1] at HC
      clear hy1
      clear hK0 hx hc e0 e1 
      have dd0 : wr.cell? ⟨b, o + i * 2, none⟩ = some (.int .i64 ((K0 : Int))) := by have := (HC.out wr HBB.out).1; rwa [show ((K0 : Nat) : Int) = (K0 : Int) by  omega] at this
      have HM1 : Hid (∀ W, Calls Try.prog 36 #[.int .i64 ((K0 : Int) + 1)] W fun e w' => e = .returned (.string y1) ∧ Below W.heap.size W w') := fun W => by
        have := sr.mark_any (K0 + 1) (by omega) (by omega) W
        rw [show ((K0 + 1 : Nat) : Int) = (K0 : Int) + 1 by omega] at this
        rwa [show sr.mark (K0 + 1) = y1 from (congrArg sr.mark (by  omega)).trans HY1.out] at this
      have HCd1 : Hid (∀ W, Below w.heap.size w W → W.cell? ⟨b, o + i * 2 + 1, none⟩ = some (.string y1)) := fun W hW => (HC.out W hW).2
      have dd1 := HCd1.out wr HBB.out
      go_wp2_with fail
      go_region_held3 (fun w' => w'.cell? ⟨b, o + i * 2 + 1, none⟩ = some (.string y1))
        (first | go_keep | exact HCd1.out _ (HBB.out.drew.trans (hb1.mono HBB.out.size)))
        (first | ((go_at_call 36; refine (HM1.out _).mono ?_; rintro e w1 ⟨rfl, hb1⟩)))
      have HB1 : Hid (Below w.heap.size w w1) := HBB.out.drew.trans (hb1.mono HBB.out.size)
      clear hb1 dd1 dd0
      go_wp2_with fail
      go_roundw
      case rel => exact ⟨i + 1, by omega, by go_num, by (rw [HSU.out]; unfold cn1Ac;  have := HKK.out; go_num), HB1.out⟩
      case measure => simp [intOf]; omega
    · have h' : ¬ (i : Int) < (n : Int) := by omega
      obtain rfl : i = n := by omega
      have HE : Hid (cnkAc l i = cnAc l) := by show _ = _; unfold cnAc; rw [HNN.out]
      rw [HE.out]
      go_wp2
      go_ret
      exact ⟨rfl, HBB.out⟩

end Go.Proofs.Ytdddplhfhpghkaa.ty
