import Derived.Test.YtnfdoaglfmndmaaYA
import Derived.Test.YtnfdoaglfmndmaaRE
namespace Go.Proofs.Ytnfdoaglfmndmaa.ty
open Go.ChangeShapes Go.WideShapes Go.ChangeAt Go.RowKit Go.Deep
set_option linter.unusedVariables false
set_option linter.unusedSimpArgs false

/-! ### The law's marks over lists that are own -/

def isSl : Value → Bool
  | .slice _ _ _ => true
  | _ => false
/-- A cell before and behind marks. -/
def K1 (v v' : Value) : Prop := (isSl v = true → v' = v) ∧ (isSl v = false → isSl v' = false)
theorem K1.refl (v : Value) : K1 v v := ⟨fun _ => rfl, fun h => h⟩
theorem K1.trans {u v x : Value} (h : K1 u v) (k : K1 v x) : K1 u x := ⟨fun e => by have := h.1 e; subst this; exact k.1 e, fun e => k.2 (h.2 e)⟩
/-- Marks keep the shape of every block. -/
def Shp (w w' : World) : Prop := ∀ (j : Nat) (cs : Array Value) (t : TypeId), w.heap[j]? = some (.cells cs t (0, 0)) → ∃ cs' : Array Value, w'.heap[j]? = some (.cells cs' t (0, 0)) ∧ ∀ (i : Nat) (v : Value), cs[i]? = some v → ∃ v' : Value, cs'[i]? = some v' ∧ K1 v v'
theorem Shp.refl (w : World) : Shp w w := fun j cs t h => ⟨cs, h, fun i v hv => ⟨v, hv, K1.refl v⟩⟩
theorem Shp.trans {A B C : World} (h : Shp A B) (k : Shp B C) : Shp A C := fun j cs t e => by
  obtain ⟨c1, e1, h1⟩ := h j cs t e
  obtain ⟨c2, e2, h2⟩ := k j c1 t e1
  exact ⟨c2, e2, fun i v hv => by
    obtain ⟨v1, g1, k1⟩ := h1 i v hv
    obtain ⟨v2, g2, k2⟩ := h2 i v1 g1
    exact ⟨v2, g2, k1.trans k2⟩⟩
theorem Shp.below {A B : World} (k : Below A.heap.size A B) : Shp A B := fun j cs t e => ⟨cs, (k.block j (Array.getElem?_eq_some_iff.1 e).1).trans e, fun i v hv => ⟨v, hv, K1.refl v⟩⟩
theorem Shp.set {w : World} {b p : Nat} {v x : Value} (hc : w.cell? ⟨b, p, none⟩ = some v) (hv : isSl v = false) (hx : isSl x = false) : Shp w (w.setCell ⟨b, p, none⟩ x) := fun j cs t e => by
  by_cases hj : j = b
  · subst hj
    have he : (w.setCell ⟨j, p, none⟩ x).heap[j]? = some (.cells (cs.setIfInBounds p x) t (0, 0)) := by simp [World.setCell, Array.getElem?_modify, e]
    refine ⟨_, he, fun i u hu => ?_⟩
    rw [Array.getElem?_setIfInBounds]
    by_cases hi : p = i
    · subst hi
      rw [if_pos rfl, if_pos (Array.getElem?_eq_some_iff.1 hu).1]
      have hcv : w.cell? ⟨j, p, none⟩ = some u := by simp [World.cell?, e, hu]
      rw [hc] at hcv
      have := Option.some.inj hcv
      subst this
      exact ⟨x, rfl, ⟨(fun h => by rw [hv] at h; cases h), fun _ => hx⟩⟩
    · rw [if_neg hi]
      exact ⟨u, hu, K1.refl u⟩
  · exact ⟨cs, by rw [show (w.setCell ⟨b, p, none⟩ x).heap[j]? = w.heap[j]? by simp only [World.setCell]; rw [Array.getElem?_modify, if_neg (fun e => hj e.symm)]]; exact e, fun i u hu => ⟨u, hu, K1.refl u⟩⟩

/-- Only blocks lo .. hi change, and these keep their shape. -/
def Rel (lo hi : Nat) (w w' : World) : Prop := (w'.os = w.os ∧ w'.tape = w.tape ∧ w'.output = w.output) ∧ w.heap.size ≤ w'.heap.size ∧ (∀ j, j < w.heap.size → (j < lo ∨ hi ≤ j) → w'.heap[j]? = w.heap[j]?) ∧ Shp w w'
theorem Rel.refl (lo hi : Nat) (w : World) : Rel lo hi w w := ⟨⟨rfl, rfl, rfl⟩, Nat.le_refl _, fun _ _ _ => rfl, Shp.refl w⟩
theorem Rel.trans {lo hi : Nat} {A B C : World} (h : Rel lo hi A B) (k : Rel lo hi B C) : Rel lo hi A C := ⟨⟨k.1.1.trans h.1.1, k.1.2.1.trans h.1.2.1, k.1.2.2.trans h.1.2.2⟩, Nat.le_trans h.2.1 k.2.1, fun j hj e => (k.2.2.1 j (Nat.lt_of_lt_of_le hj h.2.1) e).trans (h.2.2.1 j hj e), h.2.2.2.trans k.2.2.2⟩
theorem Rel.below {lo hi : Nat} {A B C : World} (h : Rel lo hi A B) (k : Below B.heap.size B C) : Rel lo hi A C := h.trans ⟨⟨k.os, k.tape, k.output⟩, k.size, fun j hj _ => k.block j hj, Shp.below k⟩
theorem Rel.set {lo hi : Nat} {A B : World} {b p : Nat} {v x : Value} (h : Rel lo hi A B) (hl : lo ≤ b) (hh : b < hi) (hc : B.cell? ⟨b, p, none⟩ = some v) (hv : isSl v = false) (hx : isSl x = false) : Rel lo hi A (B.setCell ⟨b, p, none⟩ x) :=
  h.trans ⟨⟨rfl, rfl, rfl⟩, by simp, fun j hj e => by simp only [World.setCell]; rw [Array.getElem?_modify, if_neg (by omega)], Shp.set hc hv hx⟩
theorem Rel.toBelow {lo hi : Nat} {w w' : World} (h : Rel lo hi w w') {B : Nat} (hB : B ≤ lo) (hs : B ≤ w.heap.size) : Below B w w' := ⟨h.1.1, h.1.2.1, h.1.2.2, h.2.1, fun j hj => h.2.2.1 j (by omega) (.inl (by omega))⟩
theorem cell_shp {w w' : World} (h : Shp w w') {b p : Nat} {v : Value} (hb : ∃ cs t, w.heap[b]? = some (.cells cs t (0, 0))) (hc : w.cell? ⟨b, p, none⟩ = some v) : ∃ v', w'.cell? ⟨b, p, none⟩ = some v' ∧ K1 v v' ∧ w'.frozen? ⟨b, p, none⟩ = false := by
  obtain ⟨cs, t, e⟩ := hb
  obtain ⟨cs', e', k⟩ := h b cs t e
  have hv : cs[p]? = some v := by simpa [World.cell?, e] using hc
  obtain ⟨v', h1, h2⟩ := k p v hv
  exact ⟨v', by simp [World.cell?, e', h1], h2, by simp [World.frozen?, e']⟩
theorem blk_shp {w w' : World} (h : Shp w w') {b : Nat} (hb : ∃ cs t, w.heap[b]? = some (.cells cs t (0, 0))) : ∃ cs t, w'.heap[b]? = some (.cells cs t (0, 0)) := by
  obtain ⟨cs, t, e⟩ := hb
  obtain ⟨cs', e', _⟩ := h b cs t e
  exact ⟨cs', t, e'⟩

/-- Texts. -/
def MS (lo hi : Nat) (w : World) (a : Option Addr) (l : List ByteArray) : Prop := ∃ b o, a = some ⟨b, o, none⟩ ∧ lo ≤ b ∧ b < hi ∧ (∃ cs t, w.heap[b]? = some (.cells cs t (0, 0))) ∧ ∀ i, i < l.length → ∃ v, w.cell? ⟨b, o + i, none⟩ = some v ∧ isSl v = false
def cnS (l : List ByteArray) : Nat := l.length
theorem cnS_le (l : List ByteArray) : cnS l ≤ 8 * wtS l := by have := wtS_len l; unfold cnS; omega
theorem MS.shp {lo hi : Nat} {w w' : World} {a : Option Addr} {l : List ByteArray} (h : MS lo hi w a l) (k : Shp w w') : MS lo hi w' a l := by
  obtain ⟨b, o, e, h1, h2, h3, h4⟩ := h
  refine ⟨b, o, e, h1, h2, blk_shp k h3, fun i hi => ?_⟩
  obtain ⟨v, g1, g2⟩ := h4 i hi
  obtain ⟨v', k1, k2, _⟩ := cell_shp k h3 g1
  exact ⟨v', k1, k2.2 g2⟩
theorem MS.src {lo : Nat} {w : World} {a : Option Addr} {l : List ByteArray} (h : SrcS (some lo) w a l) : MS lo w.heap.size w a l := by
  rcases h with ⟨h, _⟩ | ⟨b, o, e, h1, h2⟩
  · cases h
  · obtain ⟨g1, cs, t, g2⟩ := h1 lo rfl
    exact ⟨b, o, e, g1, (Array.getElem?_eq_some_iff.1 g2).1, ⟨cs, t, g2⟩, fun i hi => ⟨_, h2 i _ (List.getElem?_eq_getElem hi), rfl⟩⟩

set_option maxRecDepth 100000 in
set_option maxHeartbeats 1000000 in
theorem markS_all (lo hi : Nat) (a : Option Addr) (c : Nat) (l : List ByteArray) (k0 : Nat) (w : World) (hM : MS lo hi w a l) (h0 : 0 < k0) (hk : k0 + cnS l ≤ 100000000) :
    Calls Try.prog 18 #[.slice a l.length c, .int .i64 (k0 : Int)] w fun e w' => e = .returned (.int .i64 ((k0 + cnS l : Nat) : Int)) ∧ Rel lo hi w w' := by
  obtain ⟨b, o, rfl, hl, hh, hbk, hc⟩ := hM
  have HBK : Hid (∃ cs t, w.heap[b]? = some (.cells cs t (0, 0))) := hbk
  have HC : Hid (∀ i, i < l.length → ∃ v, w.cell? ⟨b, o + i, none⟩ = some v ∧ isSl v = false) := hc
  unfold cnS at hk ⊢
  clear hbk hc
  generalize l.length = n at *
  go_enter Try.func18, Try.ntmps18
  go_wp2
  go_loopw [1, 5] (fun a x wr => ∃ (i : Nat), i ≤ n ∧ x = .int .i64 (i : Int) ∧ a = .int .i64 ((k0 + i : Nat) : Int) ∧ Rel lo hi w wr) (fun _ x _ => n - (intOf x).toNat)
  case atStart => exact ⟨0, Nat.zero_le _, rfl, rfl, Rel.refl _ _ _⟩
  case round =>
    obtain ⟨i, hi', rfl, rfl, hrl⟩ := hrel
    have HRL : Hid (Rel lo hi w wr) := hrl
    clear hrl
    by_cases h : i < n
    · have h' : (i : Int) < (n : Int) := by omega
      obtain ⟨K, hK⟩ : ∃ K : Nat, k0 + i = K := ⟨_, rfl⟩
      have HKK : Hid (k0 + i = K) := hK
      have HMT : Hid (∀ W, Calls Try.prog 41 #[.int .i64 (K : Int)] W fun e w' => e = .returned (.string (sr.mark K)) ∧ Below W.heap.size W w') := fun W => sr.mark_any K (by omega) (by omega) W
      rw [hK]
      have hKb : K ≤ 100000000 := by omega
      generalize sr.mark K = s at *
      clear hK
      go_wp2_with (go_at_call 41; refine (HMT.out _).mono ?_; rintro e w1 ⟨rfl, hb1⟩; refine Hid.out ?_)
      refine Lib.hid ?_
      have HR1 : Hid (Rel lo hi w w1) := HRL.out.below hb1
      clear hb1
      obtain ⟨v0, g0, n0⟩ := HC.out i h
      obtain ⟨v1, g1, k1, f1⟩ := cell_shp HR1.out.2.2.2 HBK.out g0
      have HN1 : Hid (isSl v1 = false) := k1.2 n0
      have HR2 : Hid (Rel lo hi w (w1.setCell ⟨b, o + i, none⟩ (.string s))) := HR1.out.set hl hh g1 HN1.out rfl
      clear g0 n0 k1
      go_wp2
      go_roundw
      case rel => exact ⟨i + 1, by omega, by go_num, by rw [← Nat.add_assoc, HKK.out]; go_num, HR2.out⟩
      case measure => simp [intOf]; omega
    · have h' : ¬ (i : Int) < (n : Int) := by omega
      obtain rfl : i = n := by omega
      go_wp2
      go_ret
      exact ⟨rfl, HRL.out⟩

/-- Rows of Un, as they can be marked. -/
def MUn (lo hi : Nat) (w : World) (a : Option Addr) (l : List Un) : Prop := ∃ b o, a = some ⟨b, o, none⟩ ∧ lo ≤ b ∧ b < hi ∧ (∃ cs t, w.heap[b]? = some (.cells cs t (0, 0))) ∧ ∀ (i : Nat) (x : Un), l[i]? = some x → (∃ v, w.cell? ⟨b, o + i * 5, none⟩ = some v ∧ isSl v = false) ∧ (∃ v, w.cell? ⟨b, o + i * 5 + 3, none⟩ = some v ∧ isSl v = false) ∧ (∃ v, w.cell? ⟨b, o + i * 5 + 4, none⟩ = some v ∧ isSl v = false) ∧ (∃ a1 c1, w.cell? ⟨b, o + i * 5 + 1, none⟩ = some (.slice a1 x.fAfter.length c1) ∧ MS lo hi w a1 x.fAfter) ∧ (∃ a2 c2, w.cell? ⟨b, o + i * 5 + 2, none⟩ = some (.slice a2 x.fNeeds.length c2) ∧ MS lo hi w a2 x.fNeeds)
def cn1Un (x : Un) : Nat := 3 + cnS x.fAfter + cnS x.fNeeds
def cnkUn (l : List Un) (k : Nat) : Nat := ((l.take k).map cn1Un).sum
def cnUn (l : List Un) : Nat := cnkUn l l.length
theorem cnkUn_succ {l : List Un} {k : Nat} {x : Un} (h : l[k]? = some x) : cnkUn l (k + 1) = cnkUn l k + cn1Un x := by
  unfold cnkUn
  rw [List.take_add_one, h]
  simp
theorem cnkUn_le (l : List Un) (k : Nat) : cnkUn l k ≤ cnUn l := by
  unfold cnUn cnkUn
  rw [List.take_length]
  have : ((l.take k).map cn1Un).sum + ((l.drop k).map cn1Un).sum = (l.map cn1Un).sum := by rw [← List.sum_append_nat, ← List.map_append, List.take_append_drop]
  omega
theorem cnUn_len (l : List Un) : l.length ≤ cnUn l := by
  unfold cnUn cnkUn
  rw [List.take_length]
  induction l with
  | nil => simp
  | cons y l ih =>
    rw [List.map_cons, List.sum_cons, List.length_cons]
    have : 1 ≤ cn1Un y := by unfold cn1Un; omega
    omega
theorem cnUn_le (l : List Un) : cnUn l ≤ 8 * wtUn l := by
  have h1 : ∀ x : Un, cn1Un x ≤ 8 * (1 + wt1Un x) := fun x => by unfold cn1Un wt1Un; have := cnS_le x.fAfter; have := cnS_le x.fNeeds; omega
  unfold cnUn cnkUn wtUn wtkUn
  rw [List.take_length]
  induction l with
  | nil => simp
  | cons y l ih =>
    rw [List.map_cons, List.map_cons, List.sum_cons, List.sum_cons, List.length_cons]
    have := h1 y
    omega

theorem MUn.shp {lo hi : Nat} {w w' : World} {a : Option Addr} {l : List Un} (h : MUn lo hi w a l) (k : Shp w w') : MUn lo hi w' a l := by
  obtain ⟨b, o, e, hA, hA2, hB, hX⟩ := h
  refine ⟨b, o, e, hA, hA2, blk_shp k hB, fun i x hx => ?_⟩
  obtain ⟨h0, h1, h2, h3, h4⟩ := hX i x hx
  exact ⟨(by obtain ⟨v, g1, g2⟩ := h0; obtain ⟨v', k1, k2, _⟩ := cell_shp k hB g1; exact ⟨v', k1, k2.2 g2⟩), (by obtain ⟨v, g1, g2⟩ := h1; obtain ⟨v', k1, k2, _⟩ := cell_shp k hB g1; exact ⟨v', k1, k2.2 g2⟩), (by obtain ⟨v, g1, g2⟩ := h2; obtain ⟨v', k1, k2, _⟩ := cell_shp k hB g1; exact ⟨v', k1, k2.2 g2⟩), (by obtain ⟨a, c, g1, g2⟩ := h3; obtain ⟨v', k1, k2, _⟩ := cell_shp k hB g1; exact ⟨a, c, by rw [k1, k2.1 rfl], g2.shp k⟩), (by obtain ⟨a, c, g1, g2⟩ := h4; obtain ⟨v', k1, k2, _⟩ := cell_shp k hB g1; exact ⟨a, c, by rw [k1, k2.1 rfl], g2.shp k⟩)⟩
theorem MUn.src {lo : Nat} {w : World} {a : Option Addr} {l : List Un} (h : SrcUn (some lo) w a l) : MUn lo w.heap.size w a l := by
  rcases h with ⟨h, _⟩ | ⟨b, o, e, h1, h2⟩
  · cases h
  · obtain ⟨g1, cs, t, g2⟩ := h1 lo rfl
    refine ⟨b, o, e, g1, (Array.getElem?_eq_some_iff.1 g2).1, ⟨cs, t, g2⟩, fun i x hx => ?_⟩
    obtain ⟨a1, c1, a2, c2, q0, q1, q2, q3, q4, s1, s2, t1, t2⟩ := h2 i x hx
    exact ⟨⟨_, q0, rfl⟩, ⟨_, q3, rfl⟩, ⟨_, q4, rfl⟩, ⟨a1, c1, q1, MS.src s1⟩, ⟨a2, c2, q2, MS.src s2⟩⟩

/-- Rows of Ac, as they can be marked. -/
def MAc (lo hi : Nat) (w : World) (a : Option Addr) (l : List Ac) : Prop := ∃ b o, a = some ⟨b, o, none⟩ ∧ lo ≤ b ∧ b < hi ∧ (∃ cs t, w.heap[b]? = some (.cells cs t (0, 0))) ∧ ∀ (i : Nat) (x : Ac), l[i]? = some x → (∃ v, w.cell? ⟨b, o + i * 2, none⟩ = some v ∧ isSl v = false) ∧ (∃ v, w.cell? ⟨b, o + i * 2 + 1, none⟩ = some v ∧ isSl v = false)
def cn1Ac (x : Ac) : Nat := 2
def cnkAc (l : List Ac) (k : Nat) : Nat := ((l.take k).map cn1Ac).sum
def cnAc (l : List Ac) : Nat := cnkAc l l.length
theorem cnkAc_succ {l : List Ac} {k : Nat} {x : Ac} (h : l[k]? = some x) : cnkAc l (k + 1) = cnkAc l k + cn1Ac x := by
  unfold cnkAc
  rw [List.take_add_one, h]
  simp
theorem cnkAc_le (l : List Ac) (k : Nat) : cnkAc l k ≤ cnAc l := by
  unfold cnAc cnkAc
  rw [List.take_length]
  have : ((l.take k).map cn1Ac).sum + ((l.drop k).map cn1Ac).sum = (l.map cn1Ac).sum := by rw [← List.sum_append_nat, ← List.map_append, List.take_append_drop]
  omega
theorem cnAc_len (l : List Ac) : l.length ≤ cnAc l := by
  unfold cnAc cnkAc
  rw [List.take_length]
  induction l with
  | nil => simp
  | cons y l ih =>
    rw [List.map_cons, List.sum_cons, List.length_cons]
    have : 1 ≤ cn1Ac y := by unfold cn1Ac; omega
    omega
theorem cnAc_le (l : List Ac) : cnAc l ≤ 8 * wtAc l := by
  have h1 : ∀ x : Ac, cn1Ac x ≤ 8 * (1 + wt1Ac x) := fun x => by unfold cn1Ac wt1Ac;  omega
  unfold cnAc cnkAc wtAc wtkAc
  rw [List.take_length]
  induction l with
  | nil => simp
  | cons y l ih =>
    rw [List.map_cons, List.map_cons, List.sum_cons, List.sum_cons, List.length_cons]
    have := h1 y
    omega

theorem MAc.shp {lo hi : Nat} {w w' : World} {a : Option Addr} {l : List Ac} (h : MAc lo hi w a l) (k : Shp w w') : MAc lo hi w' a l := by
  obtain ⟨b, o, e, hA, hA2, hB, hX⟩ := h
  refine ⟨b, o, e, hA, hA2, blk_shp k hB, fun i x hx => ?_⟩
  obtain ⟨h0, h1⟩ := hX i x hx
  exact ⟨(by obtain ⟨v, g1, g2⟩ := h0; obtain ⟨v', k1, k2, _⟩ := cell_shp k hB g1; exact ⟨v', k1, k2.2 g2⟩), (by obtain ⟨v, g1, g2⟩ := h1; obtain ⟨v', k1, k2, _⟩ := cell_shp k hB g1; exact ⟨v', k1, k2.2 g2⟩)⟩
theorem MAc.src {lo : Nat} {w : World} {a : Option Addr} {l : List Ac} (h : SrcAc (some lo) w a l) : MAc lo w.heap.size w a l := by
  rcases h with ⟨h, _⟩ | ⟨b, o, e, h1, h2⟩
  · cases h
  · obtain ⟨g1, cs, t, g2⟩ := h1 lo rfl
    refine ⟨b, o, e, g1, (Array.getElem?_eq_some_iff.1 g2).1, ⟨cs, t, g2⟩, fun i x hx => ?_⟩
    obtain ⟨q0, q1⟩ := h2 i x hx
    exact ⟨⟨_, q0, rfl⟩, ⟨_, q1, rfl⟩⟩

set_option maxRecDepth 100000 in
set_option maxHeartbeats 2000000 in
theorem markAc_any (lo hi : Nat) (a : Option Addr) (c : Nat) (l : List Ac) (k0 : Nat) (w : World) (hM : MAc lo hi w a l) (h0 : 0 < k0) (hk : k0 + cnAc l ≤ 100000000) :
    Calls Try.prog 19 #[.slice a l.length c, .int .i64 (k0 : Int)] w fun e w' => e = .returned (.int .i64 ((k0 + cnAc l : Nat) : Int)) ∧ Rel lo hi w w' := by
  obtain ⟨b, o, rfl, hl, hh, hbk, hc⟩ := hM
  have HBK : Hid (∃ cs t, w.heap[b]? = some (.cells cs t (0, 0))) := hbk
  have HC : Hid (∀ (i : Nat) (x : Ac), l[i]? = some x → (∃ v, w.cell? ⟨b, o + i * 2, none⟩ = some v ∧ isSl v = false) ∧ (∃ v, w.cell? ⟨b, o + i * 2 + 1, none⟩ = some v ∧ isSl v = false)) := hc
  have HCL : Hid (∀ k, cnkAc l k ≤ cnAc l) := cnkAc_le l
  have HKL : Hid (k0 + cnAc l ≤ 100000000) := hk
  clear hbk hc hk
  obtain ⟨n, hn⟩ : ∃ n, l.length = n := ⟨_, rfl⟩
  have HN : Hid (l.length = n) := hn
  have hn9 : n ≤ 100000000 := by have h1 := cnAc_len l; have h2 := HKL.out; omega
  rw [hn]
  clear hn
  go_enter Try.func19, Try.ntmps19
  go_wp2
  go_loopw [1, 5] (fun a x wr => ∃ (i : Nat), i ≤ n ∧ x = .int .i64 (i : Int) ∧ a = .int .i64 ((k0 + cnkAc l i : Nat) : Int) ∧ Rel lo hi w wr) (fun _ x _ => n - (intOf x).toNat)
  case atStart => exact ⟨0, Nat.zero_le _, rfl, by simp [cnkAc], Rel.refl _ _ _⟩
  case round =>
    obtain ⟨i, hi', rfl, rfl, hrl⟩ := hrel
    have HRL : Hid (Rel lo hi w wr) := hrl
    clear hrl
    by_cases h : i < n
    · have h' : (i : Int) < (n : Int) := by omega
      have hi0 : (0 : Int) ≤ (i : Int) := by omega
      obtain ⟨x, hx⟩ : ∃ x, l[i]? = some x := ⟨_, List.getElem?_eq_getElem (by rw [HN.out]; exact h)⟩
      have HX : Hid (l[i]? = some x) := hx
      have HSU : Hid (cnkAc l (i + 1) = cnkAc l i + cn1Ac x) := cnkAc_succ hx
      obtain ⟨K0, hK0⟩ : ∃ K : Nat, k0 + cnkAc l i = K := ⟨_, rfl⟩
      have HKK : Hid (k0 + cnkAc l i = K0) := hK0
      have HCB : Hid (K0 + cn1Ac x ≤ 100000000) := by
        show _ ≤ _
        have h1 := HCL.out (i + 1)
        have h2 := HKL.out
        have h3 := HSU.out
        omega
      have hK0b : K0 ≤ 100000000 := by have := HCB.out; omega
      have hK0c : K0 + 2 ≤ 100000000 := by have h9 := HCB.out; unfold cn1Ac at h9; omega
      have hK0p : 0 < K0 := by omega
      rw [hK0]
      clear hK0 hx
      obtain ⟨u0_0, x0_0, y0_0⟩ := (HC.out i x HX.out).1
      obtain ⟨v0_0, g0_0, l0_0, f0_0⟩ := cell_shp HRL.out.2.2.2 HBK.out x0_0
      have HZ0_0 : Hid (isSl v0_0 = false) := l0_0.2 y0_0
      clear y0_0 l0_0
      have HR0_0 : Hid (Rel lo hi w (wr.setCell ⟨b, o + i * 2, none⟩ (.int .i64 ((K0 : Int))))) := by
        obtain ⟨v9, g9, l9, f9⟩ := cell_shp HRL.out.2.2.2 HBK.out x0_0
        obtain ⟨_, _, y9⟩ := (HC.out i x HX.out).1
        exact HRL.out.set hl hh g9 (l9.2 (by obtain ⟨u9, x9, y9⟩ := (HC.out i x HX.out).1; rw [x0_0] at x9; cases x9; exact y9)) rfl
      have HM1 : Hid (∀ W, Calls Try.prog 41 #[.int .i64 ((K0 : Int) + 1)] W fun e w' => e = .returned (.string (sr.mark (K0 + 1))) ∧ Below W.heap.size W w') := fun W => by
        have := sr.mark_any (K0 + 1) (by omega) (by omega) W
        rwa [show ((K0 + 1 : Nat) : Int) = (K0 : Int) + 1 by omega] at this
      generalize sr.mark (K0 + 1) = s1 at *
      go_wp2_with (go_at_call 41; refine (HM1.out _).mono ?_; rintro e w1 ⟨rfl, hb1⟩; refine Hid.out ?_)
      refine Lib.hid ?_
      have HB1 : Hid (Rel lo hi w w1) := HR0_0.out.below hb1
      clear hb1 HM1 g0_0 f0_0
      obtain ⟨u1_1, x1_1, y1_1⟩ := (HC.out i x HX.out).2
      obtain ⟨v1_1, g1_1, l1_1, f1_1⟩ := cell_shp HB1.out.2.2.2 HBK.out x1_1
      have HZ1_1 : Hid (isSl v1_1 = false) := l1_1.2 y1_1
      clear y1_1 l1_1
      have HR1_1 : Hid (Rel lo hi w (w1.setCell ⟨b, o + i * 2 + 1, none⟩ (.string s1))) := by
        obtain ⟨v9, g9, l9, f9⟩ := cell_shp HB1.out.2.2.2 HBK.out x1_1
        obtain ⟨_, _, y9⟩ := (HC.out i x HX.out).2
        exact HB1.out.set hl hh g9 (l9.2 (by obtain ⟨u9, x9, y9⟩ := (HC.out i x HX.out).2; rw [x1_1] at x9; cases x9; exact y9)) rfl
      go_wp2
      go_roundw
      case rel => exact ⟨i + 1, by omega, by go_num, by (rw [HSU.out]; unfold cn1Ac;  have := HKK.out; go_num) , HR1_1.out⟩
      case measure => simp [intOf]; omega
    · have h' : ¬ (i : Int) < (n : Int) := by omega
      obtain rfl : i = n := by omega
      have HE : Hid (cnkAc l i = cnAc l) := by show _ = _; unfold cnAc; rw [HN.out]
      rw [HE.out]
      go_wp2
      go_ret
      exact ⟨rfl, HRL.out⟩

end Go.Proofs.Ytnfdoaglfmndmaa.ty
