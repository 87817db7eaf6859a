import Derived.Test.YthkngngkmbohoaaGreatDoorYA
import Derived.Test.YthkngngkmbohoaaGreatDoorRE
namespace Go.Proofs.YthkngngkmbohoaaGreatDoor.ty
open Go.ChangeShapes Go.WideShapes Go.ChangeAt Go.RowKit Go.Deep
set_option linter.unusedVariables false
set_option linter.unusedSimpArgs false

/-! ### The law's marks over lists that are own -/

def isSl : Value → Bool
  | .slice _ _ _ => true
  | _ => false
/-- A cell before and behind marks. -/
def K1 (v v' : Value) : Prop := (isSl v = true → v' = v) ∧ (isSl v = false → isSl v' = false)
theorem K1.refl (v : Value) : K1 v v := ⟨fun _ => rfl, fun h => h⟩
theorem K1.trans {u v x : Value} (h : K1 u v) (k : K1 v x) : K1 u x := ⟨fun e => by have := h.1 e; subst this; exact k.1 e, fun e => k.2 (h.2 e)⟩
/-- Marks keep the shape of every block. -/
def Shp (w w' : World) : Prop := ∀ (j : Nat) (cs : Array Value) (t : TypeId), w.heap[j]? = some (.cells cs t (0, 0)) → ∃ cs' : Array Value, w'.heap[j]? = some (.cells cs' t (0, 0)) ∧ ∀ (i : Nat) (v : Value), cs[i]? = some v → ∃ v' : Value, cs'[i]? = some v' ∧ K1 v v'
theorem Shp.refl (w : World) : Shp w w := fun j cs t h => ⟨cs, h, fun i v hv => ⟨v, hv, K1.refl v⟩⟩
theorem Shp.trans {A B C : World} (h : Shp A B) (k : Shp B C) : Shp A C := fun j cs t e => by
  obtain ⟨c1, e1, h1⟩ := h j cs t e
  obtain ⟨c2, e2, h2⟩ := k j c1 t e1
  exact ⟨c2, e2, fun i v hv => by
    obtain ⟨v1, g1, k1⟩ := h1 i v hv
    obtain ⟨v2, g2, k2⟩ := h2 i v1 g1
    exact ⟨v2, g2, k1.trans k2⟩⟩
theorem Shp.below {A B : World} (k : Below A.heap.size A B) : Shp A B := fun j cs t e => ⟨cs, (k.block j (Array.getElem?_eq_some_iff.1 e).1).trans e, fun i v hv => ⟨v, hv, K1.refl v⟩⟩
theorem Shp.set {w : World} {b p : Nat} {v x : Value} (hc : w.cell? ⟨b, p, none⟩ = some v) (hv : isSl v = false) (hx : isSl x = false) : Shp w (w.setCell ⟨b, p, none⟩ x) := fun j cs t e => by
  by_cases hj : j = b
  · subst hj
    have he : (w.setCell ⟨j, p, none⟩ x).heap[j]? = some (.cells (cs.setIfInBounds p x) t (0, 0)) := by simp [World.setCell, Array.getElem?_modify, e]
    refine ⟨_, he, fun i u hu => ?_⟩
    rw [Array.getElem?_setIfInBounds]
    by_cases hi : p = i
    · subst hi
      rw [if_pos rfl, if_pos (Array.getElem?_eq_some_iff.1 hu).1]
      have hcv : w.cell? ⟨j, p, none⟩ = some u := by simp [World.cell?, e, hu]
      rw [hc] at hcv
      have := Option.some.inj hcv
      subst this
      exact ⟨x, rfl, ⟨(fun h => by rw [hv] at h; cases h), fun _ => hx⟩⟩
    · rw [if_neg hi]
      exact ⟨u, hu, K1.refl u⟩
  · exact ⟨cs, by rw [show (w.setCell ⟨b, p, none⟩ x).heap[j]? = w.heap[j]? by simp only [World.setCell]; rw [Array.getElem?_modify, if_neg (fun e => hj e.symm)]]; exact e, fun i u hu => ⟨u, hu, K1.refl u⟩⟩

/-- Only blocks lo .. hi change, and these keep their shape. -/
def Rel (lo hi : Nat) (w w' : World) : Prop := (w'.os = w.os ∧ w'.tape = w.tape ∧ w'.output = w.output) ∧ w.heap.size ≤ w'.heap.size ∧ (∀ j, j < w.heap.size → (j < lo ∨ hi ≤ j) → w'.heap[j]? = w.heap[j]?) ∧ Shp w w'
theorem Rel.refl (lo hi : Nat) (w : World) : Rel lo hi w w := ⟨⟨rfl, rfl, rfl⟩, Nat.le_refl _, fun _ _ _ => rfl, Shp.refl w⟩
theorem Rel.trans {lo hi : Nat} {A B C : World} (h : Rel lo hi A B) (k : Rel lo hi B C) : Rel lo hi A C := ⟨⟨k.1.1.trans h.1.1, k.1.2.1.trans h.1.2.1, k.1.2.2.trans h.1.2.2⟩, Nat.le_trans h.2.1 k.2.1, fun j hj e => (k.2.2.1 j (Nat.lt_of_lt_of_le hj h.2.1) e).trans (h.2.2.1 j hj e), h.2.2.2.trans k.2.2.2⟩
theorem Rel.below {lo hi : Nat} {A B C : World} (h : Rel lo hi A B) (k : Below B.heap.size B C) : Rel lo hi A C := h.trans ⟨⟨k.os, k.tape, k.output⟩, k.size, fun j hj _ => k.block j hj, Shp.below k⟩
theorem Rel.set {lo hi : Nat} {A B : World} {b p : Nat} {v x : Value} (h : Rel lo hi A B) (hl : lo ≤ b) (hh : b < hi) (hc : B.cell? ⟨b, p, none⟩ = some v) (hv : isSl v = false) (hx : isSl x = false) : Rel lo hi A (B.setCell ⟨b, p, none⟩ x) :=
  h.trans ⟨⟨rfl, rfl, rfl⟩, by simp, fun j hj e => by simp only [World.setCell]; rw [Array.getElem?_modify, if_neg (by omega)], Shp.set hc hv hx⟩
theorem Rel.toBelow {lo hi : Nat} {w w' : World} (h : Rel lo hi w w') {B : Nat} (hB : B ≤ lo) (hs : B ≤ w.heap.size) : Below B w w' := ⟨h.1.1, h.1.2.1, h.1.2.2, h.2.1, fun j hj => h.2.2.1 j (by omega) (.inl (by omega))⟩
theorem cell_shp {w w' : World} (h : Shp w w') {b p : Nat} {v : Value} (hb : ∃ cs t, w.heap[b]? = some (.cells cs t (0, 0))) (hc : w.cell? ⟨b, p, none⟩ = some v) : ∃ v', w'.cell? ⟨b, p, none⟩ = some v' ∧ K1 v v' ∧ w'.frozen? ⟨b, p, none⟩ = false := by
  obtain ⟨cs, t, e⟩ := hb
  obtain ⟨cs', e', k⟩ := h b cs t e
  have hv : cs[p]? = some v := by simpa [World.cell?, e] using hc
  obtain ⟨v', h1, h2⟩ := k p v hv
  exact ⟨v', by simp [World.cell?, e', h1], h2, by simp [World.frozen?, e']⟩
theorem blk_shp {w w' : World} (h : Shp w w') {b : Nat} (hb : ∃ cs t, w.heap[b]? = some (.cells cs t (0, 0))) : ∃ cs t, w'.heap[b]? = some (.cells cs t (0, 0)) := by
  obtain ⟨cs, t, e⟩ := hb
  obtain ⟨cs', e', _⟩ := h b cs t e
  exact ⟨cs', t, e'⟩

/-- Texts. -/
def MS (lo hi : Nat) (w : World) (a : Option Addr) (l : List ByteArray) : Prop := ∃ b o, a = some ⟨b, o, none⟩ ∧ lo ≤ b ∧ b < hi ∧ (∃ cs t, w.heap[b]? = some (.cells cs t (0, 0))) ∧ ∀ i, i < l.length → ∃ v, w.cell? ⟨b, o + i, none⟩ = some v ∧ isSl v = false
def cnS (l : List ByteArray) : Nat := l.length
theorem cnS_le (l : List ByteArray) : cnS l ≤ 8 * wtS l := by have := wtS_len l; unfold cnS; omega
theorem MS.shp {lo hi : Nat} {w w' : World} {a : Option Addr} {l : List ByteArray} (h : MS lo hi w a l) (k : Shp w w') : MS lo hi w' a l := by
  obtain ⟨b, o, e, h1, h2, h3, h4⟩ := h
  refine ⟨b, o, e, h1, h2, blk_shp k h3, fun i hi => ?_⟩
  obtain ⟨v, g1, g2⟩ := h4 i hi
  obtain ⟨v', k1, k2, _⟩ := cell_shp k h3 g1
  exact ⟨v', k1, k2.2 g2⟩
theorem MS.src {lo : Nat} {w : World} {a : Option Addr} {l : List ByteArray} (h : SrcS (some lo) w a l) : MS lo w.heap.size w a l := by
  rcases h with ⟨h, _⟩ | ⟨b, o, e, h1, h2⟩
  · cases h
  · obtain ⟨g1, cs, t, g2⟩ := h1 lo rfl
    exact ⟨b, o, e, g1, (Array.getElem?_eq_some_iff.1 g2).1, ⟨cs, t, g2⟩, fun i hi => ⟨_, h2 i _ (List.getElem?_eq_getElem hi), rfl⟩⟩

set_option maxRecDepth 100000 in
set_option maxHeartbeats 1000000 in
theorem markS_all (lo hi : Nat) (a : Option Addr) (c : Nat) (l : List ByteArray) (k0 : Nat) (w : World) (hM : MS lo hi w a l) (h0 : 0 < k0) (hk : k0 + cnS l ≤ 100000000) :
    Calls Tryz.prog 13 #[.slice a l.length c, .int .i64 (k0 : Int)] w fun e w' => e = .returned (.int .i64 ((k0 + cnS l : Nat) : Int)) ∧ Rel lo hi w w' := by
  obtain ⟨b, o, rfl, hl, hh, hbk, hc⟩ := hM
  have HBK : Hid (∃ cs t, w.heap[b]? = some (.cells cs t (0, 0))) := hbk
  have HC : Hid (∀ i, i < l.length → ∃ v, w.cell? ⟨b, o + i, none⟩ = some v ∧ isSl v = false) := hc
  unfold cnS at hk ⊢
  clear hbk hc
  generalize l.length = n at *
  go_enter Tryz.func13, Tryz.ntmps13
  go_wp2
  go_loopw [1, 5] (fun a x wr => ∃ (i : Nat), i ≤ n ∧ x = .int .i64 (i : Int) ∧ a = .int .i64 ((k0 + i : Nat) : Int) ∧ Rel lo hi w wr) (fun _ x _ => n - (intOf x).toNat)
  case atStart => exact ⟨0, Nat.zero_le _, rfl, rfl, Rel.refl _ _ _⟩
  case round =>
    obtain ⟨i, hi', rfl, rfl, hrl⟩ := hrel
    have HRL : Hid (Rel lo hi w wr) := hrl
    clear hrl
    by_cases h : i < n
    · have h' : (i : Int) < (n : Int) := by omega
      obtain ⟨K, hK⟩ : ∃ K : Nat, k0 + i = K := ⟨_, rfl⟩
      have HKK : Hid (k0 + i = K) := hK
      have HMT : Hid (∀ W, Calls Tryz.prog 23 #[.int .i64 (K : Int)] W fun e w' => e = .returned (.string (sr.mark K)) ∧ Below W.heap.size W w') := fun W => sr.mark_any K (by omega) (by omega) W
      rw [hK]
      have hKb : K ≤ 100000000 := by omega
      generalize sr.mark K = s at *
      clear hK
      go_wp2_with (go_at_call 23; refine (HMT.out _).mono ?_; rintro e w1 ⟨rfl, hb1⟩; refine Hid.out ?_)
      refine Lib.hid ?_
      have HR1 : Hid (Rel lo hi w w1) := HRL.out.below hb1
      clear hb1
      obtain ⟨v0, g0, n0⟩ := HC.out i h
      obtain ⟨v1, g1, k1, f1⟩ := cell_shp HR1.out.2.2.2 HBK.out g0
      have HN1 : Hid (isSl v1 = false) := k1.2 n0
      have HR2 : Hid (Rel lo hi w (w1.setCell ⟨b, o + i, none⟩ (.string s))) := HR1.out.set hl hh g1 HN1.out rfl
      clear g0 n0 k1
      go_wp2
      go_roundw
      case rel => exact ⟨i + 1, by omega, by go_num, by rw [← Nat.add_assoc, HKK.out]; go_num, HR2.out⟩
      case measure => simp [intOf]; omega
    · have h' : ¬ (i : Int) < (n : Int) := by omega
      obtain rfl : i = n := by omega
      go_wp2
      go_ret
      exact ⟨rfl, HRL.out⟩

/-- Rows of Op, as they can be marked. -/
def MOp (lo hi : Nat) (w : World) (a : Option Addr) (l : List Op) : Prop := ∃ b o, a = some ⟨b, o, none⟩ ∧ lo ≤ b ∧ b < hi ∧ (∃ cs t, w.heap[b]? = some (.cells cs t (0, 0))) ∧ ∀ (i : Nat) (x : Op), l[i]? = some x → (∃ v, w.cell? ⟨b, o + i * 5, none⟩ = some v ∧ isSl v = false) ∧ (∃ v, w.cell? ⟨b, o + i * 5 + 1, none⟩ = some v ∧ isSl v = false) ∧ (∃ v, w.cell? ⟨b, o + i * 5 + 2, none⟩ = some v ∧ isSl v = false) ∧ (∃ v, w.cell? ⟨b, o + i * 5 + 3, none⟩ = some v ∧ isSl v = false) ∧ (∃ a4 c4, w.cell? ⟨b, o + i * 5 + 4, none⟩ = some (.slice a4 x.fNeeds.length c4) ∧ MS lo hi w a4 x.fNeeds)
def cn1Op (x : Op) : Nat := 4 + cnS x.fNeeds
def cnkOp (l : List Op) (k : Nat) : Nat := ((l.take k).map cn1Op).sum
def cnOp (l : List Op) : Nat := cnkOp l l.length
theorem cnkOp_succ {l : List Op} {k : Nat} {x : Op} (h : l[k]? = some x) : cnkOp l (k + 1) = cnkOp l k + cn1Op x := by
  unfold cnkOp
  rw [List.take_add_one, h]
  simp
theorem cnkOp_le (l : List Op) (k : Nat) : cnkOp l k ≤ cnOp l := by
  unfold cnOp cnkOp
  rw [List.take_length]
  have : ((l.take k).map cn1Op).sum + ((l.drop k).map cn1Op).sum = (l.map cn1Op).sum := by rw [← List.sum_append_nat, ← List.map_append, List.take_append_drop]
  omega
theorem cnOp_len (l : List Op) : l.length ≤ cnOp l := by
  unfold cnOp cnkOp
  rw [List.take_length]
  induction l with
  | nil => simp
  | cons y l ih =>
    rw [List.map_cons, List.sum_cons, List.length_cons]
    have : 1 ≤ cn1Op y := by unfold cn1Op; omega
    omega
theorem cnOp_le (l : List Op) : cnOp l ≤ 8 * wtOp l := by
  have h1 : ∀ x : Op, cn1Op x ≤ 8 * (1 + wt1Op x) := fun x => by unfold cn1Op wt1Op; have := cnS_le x.fNeeds; omega
  unfold cnOp cnkOp wtOp wtkOp
  rw [List.take_length]
  induction l with
  | nil => simp
  | cons y l ih =>
    rw [List.map_cons, List.map_cons, List.sum_cons, List.sum_cons, List.length_cons]
    have := h1 y
    omega

theorem MOp.shp {lo hi : Nat} {w w' : World} {a : Option Addr} {l : List Op} (h : MOp lo hi w a l) (k : Shp w w') : MOp lo hi w' a l := by
  obtain ⟨b, o, e, hA, hA2, hB, hX⟩ := h
  refine ⟨b, o, e, hA, hA2, blk_shp k hB, fun i x hx => ?_⟩
  obtain ⟨h0, h1, h2, h3, h4⟩ := hX i x hx
  exact ⟨(by obtain ⟨v, g1, g2⟩ := h0; obtain ⟨v', k1, k2, _⟩ := cell_shp k hB g1; exact ⟨v', k1, k2.2 g2⟩), (by obtain ⟨v, g1, g2⟩ := h1; obtain ⟨v', k1, k2, _⟩ := cell_shp k hB g1; exact ⟨v', k1, k2.2 g2⟩), (by obtain ⟨v, g1, g2⟩ := h2; obtain ⟨v', k1, k2, _⟩ := cell_shp k hB g1; exact ⟨v', k1, k2.2 g2⟩), (by obtain ⟨v, g1, g2⟩ := h3; obtain ⟨v', k1, k2, _⟩ := cell_shp k hB g1; exact ⟨v', k1, k2.2 g2⟩), (by obtain ⟨a, c, g1, g2⟩ := h4; obtain ⟨v', k1, k2, _⟩ := cell_shp k hB g1; exact ⟨a, c, by rw [k1, k2.1 rfl], g2.shp k⟩)⟩
theorem MOp.src {lo : Nat} {w : World} {a : Option Addr} {l : List Op} (h : SrcOp (some lo) w a l) : MOp lo w.heap.size w a l := by
  rcases h with ⟨h, _⟩ | ⟨b, o, e, h1, h2⟩
  · cases h
  · obtain ⟨g1, cs, t, g2⟩ := h1 lo rfl
    refine ⟨b, o, e, g1, (Array.getElem?_eq_some_iff.1 g2).1, ⟨cs, t, g2⟩, fun i x hx => ?_⟩
    obtain ⟨a4, c4, q0, q1, q2, q3, q4, s4⟩ := h2 i x hx
    exact ⟨⟨_, q0, rfl⟩, ⟨_, q1, rfl⟩, ⟨_, q2, rfl⟩, ⟨_, q3, rfl⟩, ⟨a4, c4, q4, MS.src s4⟩⟩

set_option maxRecDepth 100000 in
set_option maxHeartbeats 2000000 in
theorem markOp_any (lo hi : Nat) (a : Option Addr) (c : Nat) (l : List Op) (k0 : Nat) (w : World) (hM : MOp lo hi w a l) (h0 : 0 < k0) (hk : k0 + cnOp l ≤ 100000000) :
    Calls Tryz.prog 24 #[.slice a l.length c, .int .i64 (k0 : Int)] w fun e w' => e = .returned (.int .i64 ((k0 + cnOp l : Nat) : Int)) ∧ Rel lo hi w w' := by
  obtain ⟨b, o, rfl, hl, hh, hbk, hc⟩ := hM
  have HBK : Hid (∃ cs t, w.heap[b]? = some (.cells cs t (0, 0))) := hbk
  have HC : Hid (∀ (i : Nat) (x : Op), l[i]? = some x → (∃ v, w.cell? ⟨b, o + i * 5, none⟩ = some v ∧ isSl v = false) ∧ (∃ v, w.cell? ⟨b, o + i * 5 + 1, none⟩ = some v ∧ isSl v = false) ∧ (∃ v, w.cell? ⟨b, o + i * 5 + 2, none⟩ = some v ∧ isSl v = false) ∧ (∃ v, w.cell? ⟨b, o + i * 5 + 3, none⟩ = some v ∧ isSl v = false) ∧ (∃ a4 c4, w.cell? ⟨b, o + i * 5 + 4, none⟩ = some (.slice a4 x.fNeeds.length c4) ∧ MS lo hi w a4 x.fNeeds)) := hc
  have HCL : Hid (∀ k, cnkOp l k ≤ cnOp l) := cnkOp_le l
  have HKL : Hid (k0 + cnOp l ≤ 100000000) := hk
  clear hbk hc hk
  obtain ⟨n, hn⟩ : ∃ n, l.length = n := ⟨_, rfl⟩
  have HN : Hid (l.length = n) := hn
  have hn9 : n ≤ 100000000 := by have h1 := cnOp_len l; have h2 := HKL.out; omega
  rw [hn]
  clear hn
  go_enter Tryz.func24, Tryz.ntmps24
  go_wp2
  go_loopw [1, 5] (fun a x wr => ∃ (i : Nat), i ≤ n ∧ x = .int .i64 (i : Int) ∧ a = .int .i64 ((k0 + cnkOp l i : Nat) : Int) ∧ Rel lo hi w wr) (fun _ x _ => n - (intOf x).toNat)
  case atStart => exact ⟨0, Nat.zero_le _, rfl, by simp [cnkOp], Rel.refl _ _ _⟩
  case round =>
    obtain ⟨i, hi', rfl, rfl, hrl⟩ := hrel
    have HRL : Hid (Rel lo hi w wr) := hrl
    clear hrl
    by_cases h : i < n
    · have h' : (i : Int) < (n : Int) := by omega
      have hi0 : (0 : Int) ≤ (i : Int) := by omega
      obtain ⟨x, hx⟩ : ∃ x, l[i]? = some x := ⟨_, List.getElem?_eq_getElem (by rw [HN.out]; exact h)⟩
      have HX : Hid (l[i]? = some x) := hx
      have HSU : Hid (cnkOp l (i + 1) = cnkOp l i + cn1Op x) := cnkOp_succ hx
      obtain ⟨K0, hK0⟩ : ∃ K : Nat, k0 + cnkOp l i = K := ⟨_, rfl⟩
      have HKK : Hid (k0 + cnkOp l i = K0) := hK0
      have HCB : Hid (K0 + cn1Op x ≤ 100000000) := by
        show _ ≤ _
        have h1 := HCL.out (i + 1)
        have h2 := HKL.out
        have h3 := HSU.out
        omega
      have hK0b : K0 ≤ 100000000 := by have := HCB.out; omega
      have hK0c : K0 + 4 ≤ 100000000 := by have h9 := HCB.out; unfold cn1Op at h9; omega
      have hK0p : 0 < K0 := by omega
      rw [hK0]
      clear hK0 hx
      have HM0 : Hid (∀ W, Calls Tryz.prog 23 #[.int .i64 ((K0 : Int))] W fun e w' => e = .returned (.string (sr.mark (K0 + 0))) ∧ Below W.heap.size W w') := fun W => by
        have := sr.mark_any (K0 + 0) (by omega) (by omega) W
        rwa [show ((K0 + 0 : Nat) : Int) = (K0 : Int) by omega] at this
      generalize sr.mark (K0 + 0) = s0 at *
      go_wp2_with (go_at_call 23; refine (HM0.out _).mono ?_; rintro e w0 ⟨rfl, hb0⟩; refine Hid.out ?_)
      refine Lib.hid ?_
      have HB0 : Hid (Rel lo hi w w0) := HRL.out.below hb0
      clear hb0 HM0 
      obtain ⟨u0_1, x0_1, y0_1⟩ := (HC.out i x HX.out).1
      obtain ⟨v0_1, g0_1, l0_1, f0_1⟩ := cell_shp HB0.out.2.2.2 HBK.out x0_1
      have HZ0_1 : Hid (isSl v0_1 = false) := l0_1.2 y0_1
      clear y0_1 l0_1
      have HR0_1 : Hid (Rel lo hi w (w0.setCell ⟨b, o + i * 5, none⟩ (.string s0))) := by
        obtain ⟨v9, g9, l9, f9⟩ := cell_shp HB0.out.2.2.2 HBK.out x0_1
        obtain ⟨_, _, y9⟩ := (HC.out i x HX.out).1
        exact HB0.out.set hl hh g9 (l9.2 (by obtain ⟨u9, x9, y9⟩ := (HC.out i x HX.out).1; rw [x0_1] at x9; cases x9; exact y9)) rfl
      have HM1 : Hid (∀ W, Calls Tryz.prog 23 #[.int .i64 ((K0 : Int) + 1)] W fun e w' => e = .returned (.string (sr.mark (K0 + 1))) ∧ Below W.heap.size W w') := fun W => by
        have := sr.mark_any (K0 + 1) (by omega) (by omega) W
        rwa [show ((K0 + 1 : Nat) : Int) = (K0 : Int) + 1 by omega] at this
      generalize sr.mark (K0 + 1) = s1 at *
      go_wp2_with (go_at_call 23; refine (HM1.out _).mono ?_; rintro e w1 ⟨rfl, hb1⟩; refine Hid.out ?_)
      refine Lib.hid ?_
      have HB1 : Hid (Rel lo hi w w1) := HR0_1.out.below hb1
      clear hb1 HM1 g0_1 f0_1
      obtain ⟨u1_2, x1_2, y1_2⟩ := (HC.out i x HX.out).2.1
      obtain ⟨v1_2, g1_2, l1_2, f1_2⟩ := cell_shp HB1.out.2.2.2 HBK.out x1_2
      have HZ1_2 : Hid (isSl v1_2 = false) := l1_2.2 y1_2
      clear y1_2 l1_2
      have HR1_2 : Hid (Rel lo hi w (w1.setCell ⟨b, o + i * 5 + 1, none⟩ (.string s1))) := by
        obtain ⟨v9, g9, l9, f9⟩ := cell_shp HB1.out.2.2.2 HBK.out x1_2
        obtain ⟨_, _, y9⟩ := (HC.out i x HX.out).2.1
        exact HB1.out.set hl hh g9 (l9.2 (by obtain ⟨u9, x9, y9⟩ := (HC.out i x HX.out).2.1; rw [x1_2] at x9; cases x9; exact y9)) rfl
      have HM2 : Hid (∀ W, Calls Tryz.prog 23 #[.int .i64 ((K0 : Int) + 1 + 1)] W fun e w' => e = .returned (.string (sr.mark (K0 + 2))) ∧ Below W.heap.size W w') := fun W => by
        have := sr.mark_any (K0 + 2) (by omega) (by omega) W
        rwa [show ((K0 + 2 : Nat) : Int) = (K0 : Int) + 1 + 1 by omega] at this
      generalize sr.mark (K0 + 2) = s2 at *
      go_wp2_with (go_at_call 23; refine (HM2.out _).mono ?_; rintro e w2 ⟨rfl, hb2⟩; refine Hid.out ?_)
      refine Lib.hid ?_
      have HB2 : Hid (Rel lo hi w w2) := HR1_2.out.below hb2
      clear hb2 HM2 g1_2 f1_2
      obtain ⟨u2_3, x2_3, y2_3⟩ := (HC.out i x HX.out).2.2.1
      obtain ⟨v2_3, g2_3, l2_3, f2_3⟩ := cell_shp HB2.out.2.2.2 HBK.out x2_3
      have HZ2_3 : Hid (isSl v2_3 = false) := l2_3.2 y2_3
      clear y2_3 l2_3
      have HR2_3 : Hid (Rel lo hi w (w2.setCell ⟨b, o + i * 5 + 2, none⟩ (.string s2))) := by
        obtain ⟨v9, g9, l9, f9⟩ := cell_shp HB2.out.2.2.2 HBK.out x2_3
        obtain ⟨_, _, y9⟩ := (HC.out i x HX.out).2.2.1
        exact HB2.out.set hl hh g9 (l9.2 (by obtain ⟨u9, x9, y9⟩ := (HC.out i x HX.out).2.2.1; rw [x2_3] at x9; cases x9; exact y9)) rfl
      obtain ⟨t3, ht3⟩ : ∃ t, decide (((K0 : Int) + 1 + 1 + 1) % 3 = 0) = t := ⟨_, rfl⟩
      have ht3b : (((K0 : Int) + 1 + 1 + 1) % 3 == 0) = t3 := by rw [← ht3]; rfl
      obtain ⟨u3_3, x3_3, y3_3⟩ := (HC.out i x HX.out).2.2.2.1
      obtain ⟨v3_3, g3_3, l3_3, f3_3⟩ := cell_shp HB2.out.2.2.2 HBK.out x3_3
      have HZ3_3 : Hid (isSl v3_3 = false) := l3_3.2 y3_3
      clear y3_3 l3_3
      have HR3_3 : Hid (Rel lo hi w ((w2.setCell ⟨b, o + i * 5 + 2, none⟩ (.string s2)).setCell ⟨b, o + i * 5 + 3, none⟩ (.bool t3))) := by
        obtain ⟨v9, g9, l9, f9⟩ := cell_shp HR2_3.out.2.2.2 HBK.out x3_3
        obtain ⟨_, _, y9⟩ := (HC.out i x HX.out).2.2.2.1
        exact HR2_3.out.set hl hh g9 (l9.2 (by obtain ⟨u9, x9, y9⟩ := (HC.out i x HX.out).2.2.2.1; rw [x3_3] at x9; cases x9; exact y9)) rfl
      obtain ⟨a4, c4, p4, s4⟩ := (HC.out i x HX.out).2.2.2.2
      have HM4 : Hid (∀ W, Rel lo hi w W → Calls Tryz.prog 13 #[.slice a4 x.fNeeds.length c4, .int .i64 ((K0 : Int) + 1 + 1 + 1 + 1)] W fun e w' => e = .returned (.int .i64 ((K0 + 4 + cnS x.fNeeds : Nat) : Int)) ∧ Rel lo hi W w') := fun W h => by
        have := markS_all lo hi a4 c4 x.fNeeds (K0 + 4) W (s4.shp h.2.2.2) (by omega) (by have h9 := HCB.out;  unfold cn1Op at h9; omega)
        rwa [show ((K0 + 4 : Nat) : Int) = (K0 : Int) + 1 + 1 + 1 + 1 by omega] at this
      obtain ⟨v4, g4, l4, f4⟩ := cell_shp HB2.out.2.2.2 HBK.out p4
      rw [l4.1 rfl] at g4
      obtain ⟨z4, hz4⟩ : ∃ z, x.fNeeds.length = z := ⟨_, rfl⟩
      obtain ⟨K5, hK5⟩ : ∃ z : Nat, K0 + 4 + cnS x.fNeeds = z := ⟨_, rfl⟩
      have HK5 : Hid (K0 + 4 + cnS x.fNeeds = K5) := hK5
      have hKb5 : K5 ≤ 100000000 ∧ 0 < K5 := ⟨by have h9 := HCB.out;  unfold cn1Op at h9; omega, by omega⟩
      rw [hK5, hz4] at HM4
      rw [hz4] at g4
      clear hK5 hz4 l4 s4 p4
      go_wp2_with (go_at_call 13; refine (HM4.out _ HR3_3.out).mono ?_; rintro e w4 ⟨rfl, hb4⟩; refine Hid.out ?_)
      refine Lib.hid ?_
      have HB4 : Hid (Rel lo hi w w4) := HR3_3.out.trans hb4
      clear hb4 HM4 g4 f4 g2_3 f2_3 ht3 ht3b g3_3 f3_3
      go_wp2
      go_roundw
      case rel => exact ⟨i + 1, by omega, by go_num, by (rw [HSU.out]; unfold cn1Op; have := HK5.out; have := HKK.out; go_num) , HB4.out⟩
      case measure => simp [intOf]; omega
    · have h' : ¬ (i : Int) < (n : Int) := by omega
      obtain rfl : i = n := by omega
      have HE : Hid (cnkOp l i = cnOp l) := by show _ = _; unfold cnOp; rw [HN.out]
      rw [HE.out]
      go_wp2
      go_ret
      exact ⟨rfl, HRL.out⟩

/-- Rows of Df, as they can be marked. -/
def MDf (lo hi : Nat) (w : World) (a : Option Addr) (l : List Df) : Prop := ∃ b o, a = some ⟨b, o, none⟩ ∧ lo ≤ b ∧ b < hi ∧ (∃ cs t, w.heap[b]? = some (.cells cs t (0, 0))) ∧ ∀ (i : Nat) (x : Df), l[i]? = some x → (∃ v, w.cell? ⟨b, o + i * 4, none⟩ = some v ∧ isSl v = false) ∧ (∃ v, w.cell? ⟨b, o + i * 4 + 1, none⟩ = some v ∧ isSl v = false) ∧ (∃ v, w.cell? ⟨b, o + i * 4 + 2, none⟩ = some v ∧ isSl v = false) ∧ (∃ v, w.cell? ⟨b, o + i * 4 + 3, none⟩ = some v ∧ isSl v = false)
def cn1Df (x : Df) : Nat := 4
def cnkDf (l : List Df) (k : Nat) : Nat := ((l.take k).map cn1Df).sum
def cnDf (l : List Df) : Nat := cnkDf l l.length
theorem cnkDf_succ {l : List Df} {k : Nat} {x : Df} (h : l[k]? = some x) : cnkDf l (k + 1) = cnkDf l k + cn1Df x := by
  unfold cnkDf
  rw [List.take_add_one, h]
  simp
theorem cnkDf_le (l : List Df) (k : Nat) : cnkDf l k ≤ cnDf l := by
  unfold cnDf cnkDf
  rw [List.take_length]
  have : ((l.take k).map cn1Df).sum + ((l.drop k).map cn1Df).sum = (l.map cn1Df).sum := by rw [← List.sum_append_nat, ← List.map_append, List.take_append_drop]
  omega
theorem cnDf_len (l : List Df) : l.length ≤ cnDf l := by
  unfold cnDf cnkDf
  rw [List.take_length]
  induction l with
  | nil => simp
  | cons y l ih =>
    rw [List.map_cons, List.sum_cons, List.length_cons]
    have : 1 ≤ cn1Df y := by unfold cn1Df; omega
    omega
theorem cnDf_le (l : List Df) : cnDf l ≤ 8 * wtDf l := by
  have h1 : ∀ x : Df, cn1Df x ≤ 8 * (1 + wt1Df x) := fun x => by unfold cn1Df wt1Df;  omega
  unfold cnDf cnkDf wtDf wtkDf
  rw [List.take_length]
  induction l with
  | nil => simp
  | cons y l ih =>
    rw [List.map_cons, List.map_cons, List.sum_cons, List.sum_cons, List.length_cons]
    have := h1 y
    omega

theorem MDf.shp {lo hi : Nat} {w w' : World} {a : Option Addr} {l : List Df} (h : MDf lo hi w a l) (k : Shp w w') : MDf lo hi w' a l := by
  obtain ⟨b, o, e, hA, hA2, hB, hX⟩ := h
  refine ⟨b, o, e, hA, hA2, blk_shp k hB, fun i x hx => ?_⟩
  obtain ⟨h0, h1, h2, h3⟩ := hX i x hx
  exact ⟨(by obtain ⟨v, g1, g2⟩ := h0; obtain ⟨v', k1, k2, _⟩ := cell_shp k hB g1; exact ⟨v', k1, k2.2 g2⟩), (by obtain ⟨v, g1, g2⟩ := h1; obtain ⟨v', k1, k2, _⟩ := cell_shp k hB g1; exact ⟨v', k1, k2.2 g2⟩), (by obtain ⟨v, g1, g2⟩ := h2; obtain ⟨v', k1, k2, _⟩ := cell_shp k hB g1; exact ⟨v', k1, k2.2 g2⟩), (by obtain ⟨v, g1, g2⟩ := h3; obtain ⟨v', k1, k2, _⟩ := cell_shp k hB g1; exact ⟨v', k1, k2.2 g2⟩)⟩
theorem MDf.src {lo : Nat} {w : World} {a : Option Addr} {l : List Df} (h : SrcDf (some lo) w a l) : MDf lo w.heap.size w a l := by
  rcases h with ⟨h, _⟩ | ⟨b, o, e, h1, h2⟩
  · cases h
  · obtain ⟨g1, cs, t, g2⟩ := h1 lo rfl
    refine ⟨b, o, e, g1, (Array.getElem?_eq_some_iff.1 g2).1, ⟨cs, t, g2⟩, fun i x hx => ?_⟩
    obtain ⟨q0, q1, q2, q3⟩ := h2 i x hx
    exact ⟨⟨_, q0, rfl⟩, ⟨_, q1, rfl⟩, ⟨_, q2, rfl⟩, ⟨_, q3, rfl⟩⟩

set_option maxRecDepth 100000 in
set_option maxHeartbeats 2000000 in
theorem markDf_any (lo hi : Nat) (a : Option Addr) (c : Nat) (l : List Df) (k0 : Nat) (w : World) (hM : MDf lo hi w a l) (h0 : 0 < k0) (hk : k0 + cnDf l ≤ 100000000) :
    Calls Tryz.prog 25 #[.slice a l.length c, .int .i64 (k0 : Int)] w fun e w' => e = .returned (.int .i64 ((k0 + cnDf l : Nat) : Int)) ∧ Rel lo hi w w' := by
  obtain ⟨b, o, rfl, hl, hh, hbk, hc⟩ := hM
  have HBK : Hid (∃ cs t, w.heap[b]? = some (.cells cs t (0, 0))) := hbk
  have HC : Hid (∀ (i : Nat) (x : Df), l[i]? = some x → (∃ v, w.cell? ⟨b, o + i * 4, none⟩ = some v ∧ isSl v = false) ∧ (∃ v, w.cell? ⟨b, o + i * 4 + 1, none⟩ = some v ∧ isSl v = false) ∧ (∃ v, w.cell? ⟨b, o + i * 4 + 2, none⟩ = some v ∧ isSl v = false) ∧ (∃ v, w.cell? ⟨b, o + i * 4 + 3, none⟩ = some v ∧ isSl v = false)) := hc
  have HCL : Hid (∀ k, cnkDf l k ≤ cnDf l) := cnkDf_le l
  have HKL : Hid (k0 + cnDf l ≤ 100000000) := hk
  clear hbk hc hk
  obtain ⟨n, hn⟩ : ∃ n, l.length = n := ⟨_, rfl⟩
  have HN : Hid (l.length = n) := hn
  have hn9 : n ≤ 100000000 := by have h1 := cnDf_len l; have h2 := HKL.out; omega
  rw [hn]
  clear hn
  go_enter Tryz.func25, Tryz.ntmps25
  go_wp2
  go_loopw [1, 5] (fun a x wr => ∃ (i : Nat), i ≤ n ∧ x = .int .i64 (i : Int) ∧ a = .int .i64 ((k0 + cnkDf l i : Nat) : Int) ∧ Rel lo hi w wr) (fun _ x _ => n - (intOf x).toNat)
  case atStart => exact ⟨0, Nat.zero_le _, rfl, by simp [cnkDf], Rel.refl _ _ _⟩
  case round =>
    obtain ⟨i, hi', rfl, rfl, hrl⟩ := hrel
    have HRL : Hid (Rel lo hi w wr) := hrl
    clear hrl
    by_cases h : i < n
    · have h' : (i : Int) < (n : Int) := by omega
      have hi0 : (0 : Int) ≤ (i : Int) := by omega
      obtain ⟨x, hx⟩ : ∃ x, l[i]? = some x := ⟨_, List.getElem?_eq_getElem (by rw [HN.out]; exact h)⟩
      have HX : Hid (l[i]? = some x) := hx
      have HSU : Hid (cnkDf l (i + 1) = cnkDf l i + cn1Df x) := cnkDf_succ hx
      obtain ⟨K0, hK0⟩ : ∃ K : Nat, k0 + cnkDf l i = K := ⟨_, rfl⟩
      have HKK : Hid (k0 + cnkDf l i = K0) := hK0
      have HCB : Hid (K0 + cn1Df x ≤ 100000000) := by
        show _ ≤ _
        have h1 := HCL.out (i + 1)
        have h2 := HKL.out
        have h3 := HSU.out
        omega
      have hK0b : K0 ≤ 100000000 := by have := HCB.out; omega
      have hK0c : K0 + 4 ≤ 100000000 := by have h9 := HCB.out; unfold cn1Df at h9; omega
      have hK0p : 0 < K0 := by omega
      rw [hK0]
      clear hK0 hx
      have HM0 : Hid (∀ W, Calls Tryz.prog 23 #[.int .i64 ((K0 : Int))] W fun e w' => e = .returned (.string (sr.mark (K0 + 0))) ∧ Below W.heap.size W w') := fun W => by
        have := sr.mark_any (K0 + 0) (by omega) (by omega) W
        rwa [show ((K0 + 0 : Nat) : Int) = (K0 : Int) by omega] at this
      generalize sr.mark (K0 + 0) = s0 at *
      go_wp2_with (go_at_call 23; refine (HM0.out _).mono ?_; rintro e w0 ⟨rfl, hb0⟩; refine Hid.out ?_)
      refine Lib.hid ?_
      have HB0 : Hid (Rel lo hi w w0) := HRL.out.below hb0
      clear hb0 HM0 
      obtain ⟨u0_1, x0_1, y0_1⟩ := (HC.out i x HX.out).1
      obtain ⟨v0_1, g0_1, l0_1, f0_1⟩ := cell_shp HB0.out.2.2.2 HBK.out x0_1
      have HZ0_1 : Hid (isSl v0_1 = false) := l0_1.2 y0_1
      clear y0_1 l0_1
      have HR0_1 : Hid (Rel lo hi w (w0.setCell ⟨b, o + i * 4, none⟩ (.string s0))) := by
        obtain ⟨v9, g9, l9, f9⟩ := cell_shp HB0.out.2.2.2 HBK.out x0_1
        obtain ⟨_, _, y9⟩ := (HC.out i x HX.out).1
        exact HB0.out.set hl hh g9 (l9.2 (by obtain ⟨u9, x9, y9⟩ := (HC.out i x HX.out).1; rw [x0_1] at x9; cases x9; exact y9)) rfl
      have HM1 : Hid (∀ W, Calls Tryz.prog 23 #[.int .i64 ((K0 : Int) + 1)] W fun e w' => e = .returned (.string (sr.mark (K0 + 1))) ∧ Below W.heap.size W w') := fun W => by
        have := sr.mark_any (K0 + 1) (by omega) (by omega) W
        rwa [show ((K0 + 1 : Nat) : Int) = (K0 : Int) + 1 by omega] at this
      generalize sr.mark (K0 + 1) = s1 at *
      go_wp2_with (go_at_call 23; refine (HM1.out _).mono ?_; rintro e w1 ⟨rfl, hb1⟩; refine Hid.out ?_)
      refine Lib.hid ?_
      have HB1 : Hid (Rel lo hi w w1) := HR0_1.out.below hb1
      clear hb1 HM1 g0_1 f0_1
      obtain ⟨u1_2, x1_2, y1_2⟩ := (HC.out i x HX.out).2.1
      obtain ⟨v1_2, g1_2, l1_2, f1_2⟩ := cell_shp HB1.out.2.2.2 HBK.out x1_2
      have HZ1_2 : Hid (isSl v1_2 = false) := l1_2.2 y1_2
      clear y1_2 l1_2
      have HR1_2 : Hid (Rel lo hi w (w1.setCell ⟨b, o + i * 4 + 1, none⟩ (.string s1))) := by
        obtain ⟨v9, g9, l9, f9⟩ := cell_shp HB1.out.2.2.2 HBK.out x1_2
        obtain ⟨_, _, y9⟩ := (HC.out i x HX.out).2.1
        exact HB1.out.set hl hh g9 (l9.2 (by obtain ⟨u9, x9, y9⟩ := (HC.out i x HX.out).2.1; rw [x1_2] at x9; cases x9; exact y9)) rfl
      obtain ⟨u2_2, x2_2, y2_2⟩ := (HC.out i x HX.out).2.2.1
      obtain ⟨v2_2, g2_2, l2_2, f2_2⟩ := cell_shp HB1.out.2.2.2 HBK.out x2_2
      have HZ2_2 : Hid (isSl v2_2 = false) := l2_2.2 y2_2
      clear y2_2 l2_2
      have HR2_2 : Hid (Rel lo hi w ((w1.setCell ⟨b, o + i * 4 + 1, none⟩ (.string s1)).setCell ⟨b, o + i * 4 + 2, none⟩ (.int .i64 ((K0 : Int) + 1 + 1)))) := by
        obtain ⟨v9, g9, l9, f9⟩ := cell_shp HR1_2.out.2.2.2 HBK.out x2_2
        obtain ⟨_, _, y9⟩ := (HC.out i x HX.out).2.2.1
        exact HR1_2.out.set hl hh g9 (l9.2 (by obtain ⟨u9, x9, y9⟩ := (HC.out i x HX.out).2.2.1; rw [x2_2] at x9; cases x9; exact y9)) rfl
      have HM3 : Hid (∀ W, Calls Tryz.prog 23 #[.int .i64 ((K0 : Int) + 1 + 1 + 1)] W fun e w' => e = .returned (.string (sr.mark (K0 + 3))) ∧ Below W.heap.size W w') := fun W => by
        have := sr.mark_any (K0 + 3) (by omega) (by omega) W
        rwa [show ((K0 + 3 : Nat) : Int) = (K0 : Int) + 1 + 1 + 1 by omega] at this
      generalize sr.mark (K0 + 3) = s3 at *
      go_wp2_with (go_at_call 23; refine (HM3.out _).mono ?_; rintro e w3 ⟨rfl, hb3⟩; refine Hid.out ?_)
      refine Lib.hid ?_
      have HB3 : Hid (Rel lo hi w w3) := HR2_2.out.below hb3
      clear hb3 HM3 g1_2 f1_2 g2_2 f2_2
      obtain ⟨u3_3, x3_3, y3_3⟩ := (HC.out i x HX.out).2.2.2
      obtain ⟨v3_3, g3_3, l3_3, f3_3⟩ := cell_shp HB3.out.2.2.2 HBK.out x3_3
      have HZ3_3 : Hid (isSl v3_3 = false) := l3_3.2 y3_3
      clear y3_3 l3_3
      have HR3_3 : Hid (Rel lo hi w (w3.setCell ⟨b, o + i * 4 + 3, none⟩ (.string s3))) := by
        obtain ⟨v9, g9, l9, f9⟩ := cell_shp HB3.out.2.2.2 HBK.out x3_3
        obtain ⟨_, _, y9⟩ := (HC.out i x HX.out).2.2.2
        exact HB3.out.set hl hh g9 (l9.2 (by obtain ⟨u9, x9, y9⟩ := (HC.out i x HX.out).2.2.2; rw [x3_3] at x9; cases x9; exact y9)) rfl
      go_wp2
      go_roundw
      case rel => exact ⟨i + 1, by omega, by go_num, by (rw [HSU.out]; unfold cn1Df;  have := HKK.out; go_num) , HR3_3.out⟩
      case measure => simp [intOf]; omega
    · have h' : ¬ (i : Int) < (n : Int) := by omega
      obtain rfl : i = n := by omega
      have HE : Hid (cnkDf l i = cnDf l) := by show _ = _; unfold cnDf; rw [HN.out]
      rw [HE.out]
      go_wp2
      go_ret
      exact ⟨rfl, HRL.out⟩

/-- Rows of Md, as they can be marked. -/
def MMd (lo hi : Nat) (w : World) (a : Option Addr) (l : List Md) : Prop := ∃ b o, a = some ⟨b, o, none⟩ ∧ lo ≤ b ∧ b < hi ∧ (∃ cs t, w.heap[b]? = some (.cells cs t (0, 0))) ∧ ∀ (i : Nat) (x : Md), l[i]? = some x → (∃ v, w.cell? ⟨b, o + i * 4, none⟩ = some v ∧ isSl v = false) ∧ (∃ a1 c1, w.cell? ⟨b, o + i * 4 + 1, none⟩ = some (.slice a1 x.fImports.length c1) ∧ MS lo hi w a1 x.fImports) ∧ (∃ a2 c2, w.cell? ⟨b, o + i * 4 + 2, none⟩ = some (.slice a2 x.fOptions.length c2) ∧ MOp lo hi w a2 x.fOptions) ∧ (∃ a3 c3, w.cell? ⟨b, o + i * 4 + 3, none⟩ = some (.slice a3 x.fDefs.length c3) ∧ MDf lo hi w a3 x.fDefs)
def cn1Md (x : Md) : Nat := 1 + cnS x.fImports + cnOp x.fOptions + cnDf x.fDefs
def cnkMd (l : List Md) (k : Nat) : Nat := ((l.take k).map cn1Md).sum
def cnMd (l : List Md) : Nat := cnkMd l l.length
theorem cnkMd_succ {l : List Md} {k : Nat} {x : Md} (h : l[k]? = some x) : cnkMd l (k + 1) = cnkMd l k + cn1Md x := by
  unfold cnkMd
  rw [List.take_add_one, h]
  simp
theorem cnkMd_le (l : List Md) (k : Nat) : cnkMd l k ≤ cnMd l := by
  unfold cnMd cnkMd
  rw [List.take_length]
  have : ((l.take k).map cn1Md).sum + ((l.drop k).map cn1Md).sum = (l.map cn1Md).sum := by rw [← List.sum_append_nat, ← List.map_append, List.take_append_drop]
  omega
theorem cnMd_len (l : List Md) : l.length ≤ cnMd l := by
  unfold cnMd cnkMd
  rw [List.take_length]
  induction l with
  | nil => simp
  | cons y l ih =>
    rw [List.map_cons, List.sum_cons, List.length_cons]
    have : 1 ≤ cn1Md y := by unfold cn1Md; omega
    omega
theorem cnMd_le (l : List Md) : cnMd l ≤ 8 * wtMd l := by
  have h1 : ∀ x : Md, cn1Md x ≤ 8 * (1 + wt1Md x) := fun x => by unfold cn1Md wt1Md; have := cnS_le x.fImports; have := cnOp_le x.fOptions; have := cnDf_le x.fDefs; omega
  unfold cnMd cnkMd wtMd wtkMd
  rw [List.take_length]
  induction l with
  | nil => simp
  | cons y l ih =>
    rw [List.map_cons, List.map_cons, List.sum_cons, List.sum_cons, List.length_cons]
    have := h1 y
    omega

theorem MMd.shp {lo hi : Nat} {w w' : World} {a : Option Addr} {l : List Md} (h : MMd lo hi w a l) (k : Shp w w') : MMd lo hi w' a l := by
  obtain ⟨b, o, e, hA, hA2, hB, hX⟩ := h
  refine ⟨b, o, e, hA, hA2, blk_shp k hB, fun i x hx => ?_⟩
  obtain ⟨h0, h1, h2, h3⟩ := hX i x hx
  exact ⟨(by obtain ⟨v, g1, g2⟩ := h0; obtain ⟨v', k1, k2, _⟩ := cell_shp k hB g1; exact ⟨v', k1, k2.2 g2⟩), (by obtain ⟨a, c, g1, g2⟩ := h1; obtain ⟨v', k1, k2, _⟩ := cell_shp k hB g1; exact ⟨a, c, by rw [k1, k2.1 rfl], g2.shp k⟩), (by obtain ⟨a, c, g1, g2⟩ := h2; obtain ⟨v', k1, k2, _⟩ := cell_shp k hB g1; exact ⟨a, c, by rw [k1, k2.1 rfl], g2.shp k⟩), (by obtain ⟨a, c, g1, g2⟩ := h3; obtain ⟨v', k1, k2, _⟩ := cell_shp k hB g1; exact ⟨a, c, by rw [k1, k2.1 rfl], g2.shp k⟩)⟩
theorem MMd.src {lo : Nat} {w : World} {a : Option Addr} {l : List Md} (h : SrcMd (some lo) w a l) : MMd lo w.heap.size w a l := by
  rcases h with ⟨h, _⟩ | ⟨b, o, e, h1, h2⟩
  · cases h
  · obtain ⟨g1, cs, t, g2⟩ := h1 lo rfl
    refine ⟨b, o, e, g1, (Array.getElem?_eq_some_iff.1 g2).1, ⟨cs, t, g2⟩, fun i x hx => ?_⟩
    obtain ⟨a1, c1, a2, c2, a3, c3, q0, q1, q2, q3, s1, s2, s3⟩ := h2 i x hx
    exact ⟨⟨_, q0, rfl⟩, ⟨a1, c1, q1, MS.src s1⟩, ⟨a2, c2, q2, MOp.src s2⟩, ⟨a3, c3, q3, MDf.src s3⟩⟩

set_option maxRecDepth 100000 in
set_option maxHeartbeats 2000000 in
theorem markMd_any (lo hi : Nat) (a : Option Addr) (c : Nat) (l : List Md) (k0 : Nat) (w : World) (hM : MMd lo hi w a l) (h0 : 0 < k0) (hk : k0 + cnMd l ≤ 100000000) :
    Calls Tryz.prog 12 #[.slice a l.length c, .int .i64 (k0 : Int)] w fun e w' => e = .returned (.int .i64 ((k0 + cnMd l : Nat) : Int)) ∧ Rel lo hi w w' := by
  obtain ⟨b, o, rfl, hl, hh, hbk, hc⟩ := hM
  have HBK : Hid (∃ cs t, w.heap[b]? = some (.cells cs t (0, 0))) := hbk
  have HC : Hid (∀ (i : Nat) (x : Md), l[i]? = some x → (∃ v, w.cell? ⟨b, o + i * 4, none⟩ = some v ∧ isSl v = false) ∧ (∃ a1 c1, w.cell? ⟨b, o + i * 4 + 1, none⟩ = some (.slice a1 x.fImports.length c1) ∧ MS lo hi w a1 x.fImports) ∧ (∃ a2 c2, w.cell? ⟨b, o + i * 4 + 2, none⟩ = some (.slice a2 x.fOptions.length c2) ∧ MOp lo hi w a2 x.fOptions) ∧ (∃ a3 c3, w.cell? ⟨b, o + i * 4 + 3, none⟩ = some (.slice a3 x.fDefs.length c3) ∧ MDf lo hi w a3 x.fDefs)) := hc
  have HCL : Hid (∀ k, cnkMd l k ≤ cnMd l) := cnkMd_le l
  have HKL : Hid (k0 + cnMd l ≤ 100000000) := hk
  clear hbk hc hk
  obtain ⟨n, hn⟩ : ∃ n, l.length = n := ⟨_, rfl⟩
  have HN : Hid (l.length = n) := hn
  have hn9 : n ≤ 100000000 := by have h1 := cnMd_len l; have h2 := HKL.out; omega
  rw [hn]
  clear hn
  go_enter Tryz.func12, Tryz.ntmps12
  go_wp2
  go_loopw [1, 5] (fun a x wr => ∃ (i : Nat), i ≤ n ∧ x = .int .i64 (i : Int) ∧ a = .int .i64 ((k0 + cnkMd l i : Nat) : Int) ∧ Rel lo hi w wr) (fun _ x _ => n - (intOf x).toNat)
  case atStart => exact ⟨0, Nat.zero_le _, rfl, by simp [cnkMd], Rel.refl _ _ _⟩
  case round =>
    obtain ⟨i, hi', rfl, rfl, hrl⟩ := hrel
    have HRL : Hid (Rel lo hi w wr) := hrl
    clear hrl
    by_cases h : i < n
    · have h' : (i : Int) < (n : Int) := by omega
      have hi0 : (0 : Int) ≤ (i : Int) := by omega
      obtain ⟨x, hx⟩ : ∃ x, l[i]? = some x := ⟨_, List.getElem?_eq_getElem (by rw [HN.out]; exact h)⟩
      have HX : Hid (l[i]? = some x) := hx
      have HSU : Hid (cnkMd l (i + 1) = cnkMd l i + cn1Md x) := cnkMd_succ hx
      obtain ⟨K0, hK0⟩ : ∃ K : Nat, k0 + cnkMd l i = K := ⟨_, rfl⟩
      have HKK : Hid (k0 + cnkMd l i = K0) := hK0
      have HCB : Hid (K0 + cn1Md x ≤ 100000000) := by
        show _ ≤ _
        have h1 := HCL.out (i + 1)
        have h2 := HKL.out
        have h3 := HSU.out
        omega
      have hK0b : K0 ≤ 100000000 := by have := HCB.out; omega
      have hK0c : K0 + 1 ≤ 100000000 := by have h9 := HCB.out; unfold cn1Md at h9; omega
      have hK0p : 0 < K0 := by omega
      rw [hK0]
      clear hK0 hx
      have HM0 : Hid (∀ W, Calls Tryz.prog 23 #[.int .i64 ((K0 : Int))] W fun e w' => e = .returned (.string (sr.mark (K0 + 0))) ∧ Below W.heap.size W w') := fun W => by
        have := sr.mark_any (K0 + 0) (by omega) (by omega) W
        rwa [show ((K0 + 0 : Nat) : Int) = (K0 : Int) by omega] at this
      generalize sr.mark (K0 + 0) = s0 at *
      go_wp2_with (go_at_call 23; refine (HM0.out _).mono ?_; rintro e w0 ⟨rfl, hb0⟩; refine Hid.out ?_)
      refine Lib.hid ?_
      have HB0 : Hid (Rel lo hi w w0) := HRL.out.below hb0
      clear hb0 HM0 
      obtain ⟨u0_1, x0_1, y0_1⟩ := (HC.out i x HX.out).1
      obtain ⟨v0_1, g0_1, l0_1, f0_1⟩ := cell_shp HB0.out.2.2.2 HBK.out x0_1
      have HZ0_1 : Hid (isSl v0_1 = false) := l0_1.2 y0_1
      clear y0_1 l0_1
      have HR0_1 : Hid (Rel lo hi w (w0.setCell ⟨b, o + i * 4, none⟩ (.string s0))) := by
        obtain ⟨v9, g9, l9, f9⟩ := cell_shp HB0.out.2.2.2 HBK.out x0_1
        obtain ⟨_, _, y9⟩ := (HC.out i x HX.out).1
        exact HB0.out.set hl hh g9 (l9.2 (by obtain ⟨u9, x9, y9⟩ := (HC.out i x HX.out).1; rw [x0_1] at x9; cases x9; exact y9)) rfl
      obtain ⟨a1, c1, p1, s1⟩ := (HC.out i x HX.out).2.1
      have HM1 : Hid (∀ W, Rel lo hi w W → Calls Tryz.prog 13 #[.slice a1 x.fImports.length c1, .int .i64 ((K0 : Int) + 1)] W fun e w' => e = .returned (.int .i64 ((K0 + 1 + cnS x.fImports : Nat) : Int)) ∧ Rel lo hi W w') := fun W h => by
        have := markS_all lo hi a1 c1 x.fImports (K0 + 1) W (s1.shp h.2.2.2) (by omega) (by have h9 := HCB.out;  unfold cn1Md at h9; omega)
        rwa [show ((K0 + 1 : Nat) : Int) = (K0 : Int) + 1 by omega] at this
      obtain ⟨v1, g1, l1, f1⟩ := cell_shp HB0.out.2.2.2 HBK.out p1
      rw [l1.1 rfl] at g1
      obtain ⟨z1, hz1⟩ : ∃ z, x.fImports.length = z := ⟨_, rfl⟩
      obtain ⟨K2, hK2⟩ : ∃ z : Nat, K0 + 1 + cnS x.fImports = z := ⟨_, rfl⟩
      have HK2 : Hid (K0 + 1 + cnS x.fImports = K2) := hK2
      have hKb2 : K2 ≤ 100000000 ∧ 0 < K2 := ⟨by have h9 := HCB.out;  unfold cn1Md at h9; omega, by omega⟩
      rw [hK2, hz1] at HM1
      rw [hz1] at g1
      clear hK2 hz1 l1 s1 p1
      go_wp2_with (go_at_call 13; refine (HM1.out _ HR0_1.out).mono ?_; rintro e w1 ⟨rfl, hb1⟩; refine Hid.out ?_)
      refine Lib.hid ?_
      have HB1 : Hid (Rel lo hi w w1) := HR0_1.out.trans hb1
      clear hb1 HM1 g1 f1 g0_1 f0_1
      obtain ⟨a2, c2, p2, s2⟩ := (HC.out i x HX.out).2.2.1
      have HM2 : Hid (∀ W, Rel lo hi w W → Calls Tryz.prog 24 #[.slice a2 x.fOptions.length c2, .int .i64 ((K2 : Int))] W fun e w' => e = .returned (.int .i64 ((K2 + 0 + cnOp x.fOptions : Nat) : Int)) ∧ Rel lo hi W w') := fun W h => by
        have := markOp_any lo hi a2 c2 x.fOptions (K2 + 0) W (s2.shp h.2.2.2) (by omega) (by have h9 := HCB.out; have h91 := HK2.out; unfold cn1Md at h9; omega)
        rwa [show ((K2 + 0 : Nat) : Int) = (K2 : Int) by omega] at this
      obtain ⟨v2, g2, l2, f2⟩ := cell_shp HB1.out.2.2.2 HBK.out p2
      rw [l2.1 rfl] at g2
      obtain ⟨z2, hz2⟩ : ∃ z, x.fOptions.length = z := ⟨_, rfl⟩
      obtain ⟨K3, hK3⟩ : ∃ z : Nat, K2 + 0 + cnOp x.fOptions = z := ⟨_, rfl⟩
      have HK3 : Hid (K2 + 0 + cnOp x.fOptions = K3) := hK3
      have hKb3 : K3 ≤ 100000000 ∧ 0 < K3 := ⟨by have h9 := HCB.out; have h91 := HK2.out; unfold cn1Md at h9; omega, by omega⟩
      rw [hK3, hz2] at HM2
      rw [hz2] at g2
      clear hK3 hz2 l2 s2 p2
      go_wp2_with (go_at_call 24; refine (HM2.out _ HB1.out).mono ?_; rintro e w2 ⟨rfl, hb2⟩; refine Hid.out ?_)
      refine Lib.hid ?_
      have HB2 : Hid (Rel lo hi w w2) := HB1.out.trans hb2
      clear hb2 HM2 g2 f2 
      obtain ⟨a3, c3, p3, s3⟩ := (HC.out i x HX.out).2.2.2
      have HM3 : Hid (∀ W, Rel lo hi w W → Calls Tryz.prog 25 #[.slice a3 x.fDefs.length c3, .int .i64 ((K3 : Int))] W fun e w' => e = .returned (.int .i64 ((K3 + 0 + cnDf x.fDefs : Nat) : Int)) ∧ Rel lo hi W w') := fun W h => by
        have := markDf_any lo hi a3 c3 x.fDefs (K3 + 0) W (s3.shp h.2.2.2) (by omega) (by have h9 := HCB.out; have h91 := HK2.out; have h92 := HK3.out; unfold cn1Md at h9; omega)
        rwa [show ((K3 + 0 : Nat) : Int) = (K3 : Int) by omega] at this
      obtain ⟨v3, g3, l3, f3⟩ := cell_shp HB2.out.2.2.2 HBK.out p3
      rw [l3.1 rfl] at g3
      obtain ⟨z3, hz3⟩ : ∃ z, x.fDefs.length = z := ⟨_, rfl⟩
      obtain ⟨K4, hK4⟩ : ∃ z : Nat, K3 + 0 + cnDf x.fDefs = z := ⟨_, rfl⟩
      have HK4 : Hid (K3 + 0 + cnDf x.fDefs = K4) := hK4
      have hKb4 : K4 ≤ 100000000 ∧ 0 < K4 := ⟨by have h9 := HCB.out; have h91 := HK2.out; have h92 := HK3.out; unfold cn1Md at h9; omega, by omega⟩
      rw [hK4, hz3] at HM3
      rw [hz3] at g3
      clear hK4 hz3 l3 s3 p3
      go_wp2_with (go_at_call 25; refine (HM3.out _ HB2.out).mono ?_; rintro e w3 ⟨rfl, hb3⟩; refine Hid.out ?_)
      refine Lib.hid ?_
      have HB3 : Hid (Rel lo hi w w3) := HB2.out.trans hb3
      clear hb3 HM3 g3 f3 
      go_wp2
      go_roundw
      case rel => exact ⟨i + 1, by omega, by go_num, by (rw [HSU.out]; unfold cn1Md; have := HK2.out; have := HK3.out; have := HK4.out; have := HKK.out; go_num) , HB3.out⟩
      case measure => simp [intOf]; omega
    · have h' : ¬ (i : Int) < (n : Int) := by omega
      obtain rfl : i = n := by omega
      have HE : Hid (cnkMd l i = cnMd l) := by show _ = _; unfold cnMd; rw [HN.out]
      rw [HE.out]
      go_wp2
      go_ret
      exact ⟨rfl, HRL.out⟩

end Go.Proofs.YthkngngkmbohoaaGreatDoor.ty
