import Derived.Test.YtdddplhfhpghkaaYA
import Derived.Test.YtdddplhfhpghkaaRE
namespace Go.Proofs.Ytdddplhfhpghkaa.ty
open Go.ChangeShapes Go.WideShapes Go.ChangeAt Go.RowKit Go.Deep
set_option linter.unusedVariables false
set_option linter.unusedSimpArgs false

/-! ### The law's marks over lists that are own -/

def isSl : Value → Bool
  | .slice _ _ _ => true
  | _ => false
/-- A cell before and behind marks. -/
def K1 (v v' : Value) : Prop := (isSl v = true → v' = v) ∧ (isSl v = false → isSl v' = false)
theorem K1.refl (v : Value) : K1 v v := ⟨fun _ => rfl, fun h => h⟩
theorem K1.trans {u v x : Value} (h : K1 u v) (k : K1 v x) : K1 u x := ⟨fun e => by have := h.1 e; subst this; exact k.1 e, fun e => k.2 (h.2 e)⟩
/-- Marks keep the shape of every block. -/
def Shp (w w' : World) : Prop := ∀ (j : Nat) (cs : Array Value) (t : TypeId), w.heap[j]? = some (.cells cs t (0, 0)) → ∃ cs' : Array Value, w'.heap[j]? = some (.cells cs' t (0, 0)) ∧ ∀ (i : Nat) (v : Value), cs[i]? = some v → ∃ v' : Value, cs'[i]? = some v' ∧ K1 v v'
theorem Shp.refl (w : World) : Shp w w := fun j cs t h => ⟨cs, h, fun i v hv => ⟨v, hv, K1.refl v⟩⟩
theorem Shp.trans {A B C : World} (h : Shp A B) (k : Shp B C) : Shp A C := fun j cs t e => by
  obtain ⟨c1, e1, h1⟩ := h j cs t e
  obtain ⟨c2, e2, h2⟩ := k j c1 t e1
  exact ⟨c2, e2, fun i v hv => by
    obtain ⟨v1, g1, k1⟩ := h1 i v hv
    obtain ⟨v2, g2, k2⟩ := h2 i v1 g1
    exact ⟨v2, g2, k1.trans k2⟩⟩
theorem Shp.below {A B : World} (k : Below A.heap.size A B) : Shp A B := fun j cs t e => ⟨cs, (k.block j (Array.getElem?_eq_some_iff.1 e).1).trans e, fun i v hv => ⟨v, hv, K1.refl v⟩⟩
theorem Shp.set {w : World} {b p : Nat} {v x : Value} (hc : w.cell? ⟨b, p, none⟩ = some v) (hv : isSl v = false) (hx : isSl x = false) : Shp w (w.setCell ⟨b, p, none⟩ x) := fun j cs t e => by
  by_cases hj : j = b
  · subst hj
    have he : (w.setCell ⟨j, p, none⟩ x).heap[j]? = some (.cells (cs.setIfInBounds p x) t (0, 0)) := by simp [World.setCell, Array.getElem?_modify, e]
    refine ⟨_, he, fun i u hu => ?_⟩
    rw [Array.getElem?_setIfInBounds]
    by_cases hi : p = i
    · subst hi
      rw [if_pos rfl, if_pos (Array.getElem?_eq_some_iff.1 hu).1]
      have hcv : w.cell? ⟨j, p, none⟩ = some u := by simp [World.cell?, e, hu]
      rw [hc] at hcv
      have := Option.some.inj hcv
      subst this
      exact ⟨x, rfl, ⟨(fun h => by rw [hv] at h; cases h), fun _ => hx⟩⟩
    · rw [if_neg hi]
      exact ⟨u, hu, K1.refl u⟩
  · exact ⟨cs, by rw [show (w.setCell ⟨b, p, none⟩ x).heap[j]? = w.heap[j]? by simp only [World.setCell]; rw [Array.getElem?_modify, if_neg (fun e => hj e.symm)]]; exact e, fun i u hu => ⟨u, hu, K1.refl u⟩⟩

/-- Only blocks lo .. hi change, and these keep their shape. -/
def Rel (lo hi : Nat) (w w' : World) : Prop := (w'.os = w.os ∧ w'.tape = w.tape ∧ w'.output = w.output) ∧ w.heap.size ≤ w'.heap.size ∧ (∀ j, j < w.heap.size → (j < lo ∨ hi ≤ j) → w'.heap[j]? = w.heap[j]?) ∧ Shp w w'
theorem Rel.refl (lo hi : Nat) (w : World) : Rel lo hi w w := ⟨⟨rfl, rfl, rfl⟩, Nat.le_refl _, fun _ _ _ => rfl, Shp.refl w⟩
theorem Rel.trans {lo hi : Nat} {A B C : World} (h : Rel lo hi A B) (k : Rel lo hi B C) : Rel lo hi A C := ⟨⟨k.1.1.trans h.1.1, k.1.2.1.trans h.1.2.1, k.1.2.2.trans h.1.2.2⟩, Nat.le_trans h.2.1 k.2.1, fun j hj e => (k.2.2.1 j (Nat.lt_of_lt_of_le hj h.2.1) e).trans (h.2.2.1 j hj e), h.2.2.2.trans k.2.2.2⟩
theorem Rel.below {lo hi : Nat} {A B C : World} (h : Rel lo hi A B) (k : Below B.heap.size B C) : Rel lo hi A C := h.trans ⟨⟨k.os, k.tape, k.output⟩, k.size, fun j hj _ => k.block j hj, Shp.below k⟩
theorem Rel.set {lo hi : Nat} {A B : World} {b p : Nat} {v x : Value} (h : Rel lo hi A B) (hl : lo ≤ b) (hh : b < hi) (hc : B.cell? ⟨b, p, none⟩ = some v) (hv : isSl v = false) (hx : isSl x = false) : Rel lo hi A (B.setCell ⟨b, p, none⟩ x) :=
  h.trans ⟨⟨rfl, rfl, rfl⟩, by simp, fun j hj e => by simp only [World.setCell]; rw [Array.getElem?_modify, if_neg (by omega)], Shp.set hc hv hx⟩
theorem Rel.toBelow {lo hi : Nat} {w w' : World} (h : Rel lo hi w w') {B : Nat} (hB : B ≤ lo) (hs : B ≤ w.heap.size) : Below B w w' := ⟨h.1.1, h.1.2.1, h.1.2.2, h.2.1, fun j hj => h.2.2.1 j (by omega) (.inl (by omega))⟩
theorem cell_shp {w w' : World} (h : Shp w w') {b p : Nat} {v : Value} (hb : ∃ cs t, w.heap[b]? = some (.cells cs t (0, 0))) (hc : w.cell? ⟨b, p, none⟩ = some v) : ∃ v', w'.cell? ⟨b, p, none⟩ = some v' ∧ K1 v v' ∧ w'.frozen? ⟨b, p, none⟩ = false := by
  obtain ⟨cs, t, e⟩ := hb
  obtain ⟨cs', e', k⟩ := h b cs t e
  have hv : cs[p]? = some v := by simpa [World.cell?, e] using hc
  obtain ⟨v', h1, h2⟩ := k p v hv
  exact ⟨v', by simp [World.cell?, e', h1], h2, by simp [World.frozen?, e']⟩
theorem blk_shp {w w' : World} (h : Shp w w') {b : Nat} (hb : ∃ cs t, w.heap[b]? = some (.cells cs t (0, 0))) : ∃ cs t, w'.heap[b]? = some (.cells cs t (0, 0)) := by
  obtain ⟨cs, t, e⟩ := hb
  obtain ⟨cs', e', _⟩ := h b cs t e
  exact ⟨cs', t, e'⟩

/-- Texts. -/
def MS (lo hi : Nat) (w : World) (a : Option Addr) (l : List ByteArray) : Prop := ∃ b o, a = some ⟨b, o, none⟩ ∧ lo ≤ b ∧ b < hi ∧ (∃ cs t, w.heap[b]? = some (.cells cs t (0, 0))) ∧ ∀ i, i < l.length → ∃ v, w.cell? ⟨b, o + i, none⟩ = some v ∧ isSl v = false
def cnS (l : List ByteArray) : Nat := l.length
theorem cnS_le (l : List ByteArray) : cnS l ≤ 8 * wtS l := by have := wtS_len l; unfold cnS; omega
theorem MS.shp {lo hi : Nat} {w w' : World} {a : Option Addr} {l : List ByteArray} (h : MS lo hi w a l) (k : Shp w w') : MS lo hi w' a l := by
  obtain ⟨b, o, e, h1, h2, h3, h4⟩ := h
  refine ⟨b, o, e, h1, h2, blk_shp k h3, fun i hi => ?_⟩
  obtain ⟨v, g1, g2⟩ := h4 i hi
  obtain ⟨v', k1, k2, _⟩ := cell_shp k h3 g1
  exact ⟨v', k1, k2.2 g2⟩
theorem MS.src {lo : Nat} {w : World} {a : Option Addr} {l : List ByteArray} (h : SrcS (some lo) w a l) : MS lo w.heap.size w a l := by
  rcases h with ⟨h, _⟩ | ⟨b, o, e, h1, h2⟩
  · cases h
  · obtain ⟨g1, cs, t, g2⟩ := h1 lo rfl
    exact ⟨b, o, e, g1, (Array.getElem?_eq_some_iff.1 g2).1, ⟨cs, t, g2⟩, fun i hi => ⟨_, h2 i _ (List.getElem?_eq_getElem hi), rfl⟩⟩

set_option maxRecDepth 100000 in
set_option maxHeartbeats 1000000 in
theorem markS_all (lo hi : Nat) (a : Option Addr) (c : Nat) (l : List ByteArray) (k0 : Nat) (w : World) (hM : MS lo hi w a l) (h0 : 0 < k0) (hk : k0 + cnS l ≤ 100000000) :
    Calls Try.prog 13 #[.slice a l.length c, .int .i64 (k0 : Int)] w fun e w' => e = .returned (.int .i64 ((k0 + cnS l : Nat) : Int)) ∧ Rel lo hi w w' := by
  obtain ⟨b, o, rfl, hl, hh, hbk, hc⟩ := hM
  have HBK : Hid (∃ cs t, w.heap[b]? = some (.cells cs t (0, 0))) := hbk
  have HC : Hid (∀ i, i < l.length → ∃ v, w.cell? ⟨b, o + i, none⟩ = some v ∧ isSl v = false) := hc
  unfold cnS at hk ⊢
  clear hbk hc
  generalize l.length = n at *
  go_enter Try.func13, Try.ntmps13
  go_wp2
  go_loopw [1, 5] (fun a x wr => ∃ (i : Nat), i ≤ n ∧ x = .int .i64 (i : Int) ∧ a = .int .i64 ((k0 + i : Nat) : Int) ∧ Rel lo hi w wr) (fun _ x _ => n - (intOf x).toNat)
  case atStart => exact ⟨0, Nat.zero_le _, rfl, rfl, Rel.refl _ _ _⟩
  case round =>
    obtain ⟨i, hi', rfl, rfl, hrl⟩ := hrel
    have HRL : Hid (Rel lo hi w wr) := hrl
    clear hrl
    by_cases h : i < n
    · have h' : (i : Int) < (n : Int) := by omega
      obtain ⟨K, hK⟩ : ∃ K : Nat, k0 + i = K := ⟨_, rfl⟩
      have HKK : Hid (k0 + i = K) := hK
      have HMT : Hid (∀ W, Calls Try.prog 36 #[.int .i64 (K : Int)] W fun e w' => e = .returned (.string (sr.mark K)) ∧ Below W.heap.size W w') := fun W => sr.mark_any K (by omega) (by omega) W
      rw [hK]
      have hKb : K ≤ 100000000 := by omega
      generalize sr.mark K = s at *
      clear hK
      go_wp2_with (go_at_call 36; refine (HMT.out _).mono ?_; rintro e w1 ⟨rfl, hb1⟩; refine Hid.out ?_)
      refine Lib.hid ?_
      have HR1 : Hid (Rel lo hi w w1) := HRL.out.below hb1
      clear hb1
      obtain ⟨v0, g0, n0⟩ := HC.out i h
      obtain ⟨v1, g1, k1, f1⟩ := cell_shp HR1.out.2.2.2 HBK.out g0
      have HN1 : Hid (isSl v1 = false) := k1.2 n0
      have HR2 : Hid (Rel lo hi w (w1.setCell ⟨b, o + i, none⟩ (.string s))) := HR1.out.set hl hh g1 HN1.out rfl
      clear g0 n0 k1
      go_wp2
      go_roundw
      case rel => exact ⟨i + 1, by omega, by go_num, by rw [← Nat.add_assoc, HKK.out]; go_num, HR2.out⟩
      case measure => simp [intOf]; omega
    · have h' : ¬ (i : Int) < (n : Int) := by omega
      obtain rfl : i = n := by omega
      go_wp2
      go_ret
      exact ⟨rfl, HRL.out⟩

/-- Rows of Un, as they can be marked. -/
def MUn (lo hi : Nat) (w : World) (a : Option Addr) (l : List Un) : Prop := ∃ b o, a = some ⟨b, o, none⟩ ∧ lo ≤ b ∧ b < hi ∧ (∃ cs t, w.heap[b]? = some (.cells cs t (0, 0))) ∧ ∀ (i : Nat) (x : Un), l[i]? = some x → (∃ v, w.cell? ⟨b, o + i * 5, none⟩ = some v ∧ isSl v = false) ∧ (∃ v, w.cell? ⟨b, o + i * 5 + 3, none⟩ = some v ∧ isSl v = false) ∧ (∃ v, w.cell? ⟨b, o + i * 5 + 4, none⟩ = some v ∧ isSl v = false) ∧ (∃ a1 c1, w.cell? ⟨b, o + i * 5 + 1, none⟩ = some (.slice a1 x.fAfter.length c1) ∧ MS lo hi w a1 x.fAfter) ∧ (∃ a2 c2, w.cell? ⟨b, o + i * 5 + 2, none⟩ = some (.slice a2 x.fNeeds.length c2) ∧ MS lo hi w a2 x.fNeeds)
def cn1Un (x : Un) : Nat := 3 + cnS x.fAfter + cnS x.fNeeds
def cnkUn (l : List Un) (k : Nat) : Nat := ((l.take k).map cn1Un).sum
def cnUn (l : List Un) : Nat := cnkUn l l.length
theorem cnkUn_succ {l : List Un} {k : Nat} {x : Un} (h : l[k]? = some x) : cnkUn l (k + 1) = cnkUn l k + cn1Un x := by
  unfold cnkUn
  rw [List.take_add_one, h]
  simp
theorem cnkUn_le (l : List Un) (k : Nat) : cnkUn l k ≤ cnUn l := by
  unfold cnUn cnkUn
  rw [List.take_length]
  have : ((l.take k).map cn1Un).sum + ((l.drop k).map cn1Un).sum = (l.map cn1Un).sum := by rw [← List.sum_append_nat, ← List.map_append, List.take_append_drop]
  omega
theorem cnUn_len (l : List Un) : l.length ≤ cnUn l := by
  unfold cnUn cnkUn
  rw [List.take_length]
  induction l with
  | nil => simp
  | cons y l ih =>
    rw [List.map_cons, List.sum_cons, List.length_cons]
    have : 1 ≤ cn1Un y := by unfold cn1Un; omega
    omega
theorem cnUn_le (l : List Un) : cnUn l ≤ 8 * wtUn l := by
  have h1 : ∀ x : Un, cn1Un x ≤ 8 * (1 + wt1Un x) := fun x => by unfold cn1Un wt1Un; have := cnS_le x.fAfter; have := cnS_le x.fNeeds; omega
  unfold cnUn cnkUn wtUn wtkUn
  rw [List.take_length]
  induction l with
  | nil => simp
  | cons y l ih =>
    rw [List.map_cons, List.map_cons, List.sum_cons, List.sum_cons, List.length_cons]
    have := h1 y
    omega

theorem MUn.shp {lo hi : Nat} {w w' : World} {a : Option Addr} {l : List Un} (h : MUn lo hi w a l) (k : Shp w w') : MUn lo hi w' a l := by
  obtain ⟨b, o, e, hA, hA2, hB, hX⟩ := h
  refine ⟨b, o, e, hA, hA2, blk_shp k hB, fun i x hx => ?_⟩
  obtain ⟨h0, h1, h2, h3, h4⟩ := hX i x hx
  exact ⟨(by obtain ⟨v, g1, g2⟩ := h0; obtain ⟨v', k1, k2, _⟩ := cell_shp k hB g1; exact ⟨v', k1, k2.2 g2⟩), (by obtain ⟨v, g1, g2⟩ := h1; obtain ⟨v', k1, k2, _⟩ := cell_shp k hB g1; exact ⟨v', k1, k2.2 g2⟩), (by obtain ⟨v, g1, g2⟩ := h2; obtain ⟨v', k1, k2, _⟩ := cell_shp k hB g1; exact ⟨v', k1, k2.2 g2⟩), (by obtain ⟨a, c, g1, g2⟩ := h3; obtain ⟨v', k1, k2, _⟩ := cell_shp k hB g1; exact ⟨a, c, by rw [k1, k2.1 rfl], g2.shp k⟩), (by obtain ⟨a, c, g1, g2⟩ := h4; obtain ⟨v', k1, k2, _⟩ := cell_shp k hB g1; exact ⟨a, c, by rw [k1, k2.1 rfl], g2.shp k⟩)⟩
theorem MUn.src {lo : Nat} {w : World} {a : Option Addr} {l : List Un} (h : SrcUn (some lo) w a l) : MUn lo w.heap.size w a l := by
  rcases h with ⟨h, _⟩ | ⟨b, o, e, h1, h2⟩
  · cases h
  · obtain ⟨g1, cs, t, g2⟩ := h1 lo rfl
    refine ⟨b, o, e, g1, (Array.getElem?_eq_some_iff.1 g2).1, ⟨cs, t, g2⟩, fun i x hx => ?_⟩
    obtain ⟨a1, c1, a2, c2, q0, q1, q2, q3, q4, s1, s2, t1, t2⟩ := h2 i x hx
    exact ⟨⟨_, q0, rfl⟩, ⟨_, q3, rfl⟩, ⟨_, q4, rfl⟩, ⟨a1, c1, q1, MS.src s1⟩, ⟨a2, c2, q2, MS.src s2⟩⟩

set_option maxRecDepth 100000 in
set_option maxHeartbeats 2000000 in
theorem markUn_any (lo hi : Nat) (a : Option Addr) (c : Nat) (l : List Un) (k0 : Nat) (w : World) (hM : MUn lo hi w a l) (h0 : 0 < k0) (hk : k0 + cnUn l ≤ 100000000) :
    Calls Try.prog 12 #[.slice a l.length c, .int .i64 (k0 : Int)] w fun e w' => e = .returned (.int .i64 ((k0 + cnUn l : Nat) : Int)) ∧ Rel lo hi w w' := by
  obtain ⟨b, o, rfl, hl, hh, hbk, hc⟩ := hM
  have HBK : Hid (∃ cs t, w.heap[b]? = some (.cells cs t (0, 0))) := hbk
  have HC : Hid (∀ (i : Nat) (x : Un), l[i]? = some x → (∃ v, w.cell? ⟨b, o + i * 5, none⟩ = some v ∧ isSl v = false) ∧ (∃ v, w.cell? ⟨b, o + i * 5 + 3, none⟩ = some v ∧ isSl v = false) ∧ (∃ v, w.cell? ⟨b, o + i * 5 + 4, none⟩ = some v ∧ isSl v = false) ∧ (∃ a1 c1, w.cell? ⟨b, o + i * 5 + 1, none⟩ = some (.slice a1 x.fAfter.length c1) ∧ MS lo hi w a1 x.fAfter) ∧ (∃ a2 c2, w.cell? ⟨b, o + i * 5 + 2, none⟩ = some (.slice a2 x.fNeeds.length c2) ∧ MS lo hi w a2 x.fNeeds)) := hc
  have HCL : Hid (∀ k, cnkUn l k ≤ cnUn l) := cnkUn_le l
  have HKL : Hid (k0 + cnUn l ≤ 100000000) := hk
  clear hbk hc hk
  obtain ⟨n, hn⟩ : ∃ n, l.length = n := ⟨_, rfl⟩
  have HN : Hid (l.length = n) := hn
  have hn9 : n ≤ 100000000 := by have h1 := cnUn_len l; have h2 := HKL.out; omega
  rw [hn]
  clear hn
  go_enter Try.func12, Try.ntmps12
  go_wp2
  go_loopw [1, 5] (fun a x wr => ∃ (i : Nat), i ≤ n ∧ x = .int .i64 (i : Int) ∧ a = .int .i64 ((k0 + cnkUn l i : Nat) : Int) ∧ Rel lo hi w wr) (fun _ x _ => n - (intOf x).toNat)
  case atStart => exact ⟨0, Nat.zero_le _, rfl, by simp [cnkUn], Rel.refl _ _ _⟩
  case round =>
    obtain ⟨i, hi', rfl, rfl, hrl⟩ := hrel
    have HRL : Hid (Rel lo hi w wr) := hrl
    clear hrl
    by_cases h : i < n
    · have h' : (i : Int) < (n : Int) := by omega
      have hi0 : (0 : Int) ≤ (i : Int) := by omega
      obtain ⟨x, hx⟩ : ∃ x, l[i]? = some x := ⟨_, List.getElem?_eq_getElem (by rw [HN.out]; exact h)⟩
      have HX : Hid (l[i]? = some x) := hx
      have HSU : Hid (cnkUn l (i + 1) = cnkUn l i + cn1Un x) := cnkUn_succ hx
      obtain ⟨K0, hK0⟩ : ∃ K : Nat, k0 + cnkUn l i = K := ⟨_, rfl⟩
      have HKK : Hid (k0 + cnkUn l i = K0) := hK0
      have HCB : Hid (K0 + cn1Un x ≤ 100000000) := by
        show _ ≤ _
        have h1 := HCL.out (i + 1)
        have h2 := HKL.out
        have h3 := HSU.out
        omega
      have hK0b : K0 ≤ 100000000 := by have := HCB.out; omega
      have hK0c : K0 + 3 ≤ 100000000 := by have h9 := HCB.out; unfold cn1Un at h9; omega
      have hK0p : 0 < K0 := by omega
      rw [hK0]
      clear hK0 hx
      have HM0 : Hid (∀ W, Calls Try.prog 36 #[.int .i64 ((K0 : Int))] W fun e w' => e = .returned (.string (sr.mark (K0 + 0))) ∧ Below W.heap.size W w') := fun W => by
        have := sr.mark_any (K0 + 0) (by omega) (by omega) W
        rwa [show ((K0 + 0 : Nat) : Int) = (K0 : Int) by omega] at this
      generalize sr.mark (K0 + 0) = s0 at *
      go_wp2_with (go_at_call 36; refine (HM0.out _).mono ?_; rintro e w0 ⟨rfl, hb0⟩; refine Hid.out ?_)
      refine Lib.hid ?_
      have HB0 : Hid (Rel lo hi w w0) := HRL.out.below hb0
      clear hb0 HM0 
      obtain ⟨u0_1, x0_1, y0_1⟩ := (HC.out i x HX.out).1
      obtain ⟨v0_1, g0_1, l0_1, f0_1⟩ := cell_shp HB0.out.2.2.2 HBK.out x0_1
      have HZ0_1 : Hid (isSl v0_1 = false) := l0_1.2 y0_1
      clear y0_1 l0_1
      have HR0_1 : Hid (Rel lo hi w (w0.setCell ⟨b, o + i * 5, none⟩ (.string s0))) := by
        obtain ⟨v9, g9, l9, f9⟩ := cell_shp HB0.out.2.2.2 HBK.out x0_1
        obtain ⟨_, _, y9⟩ := (HC.out i x HX.out).1
        exact HB0.out.set hl hh g9 (l9.2 (by obtain ⟨u9, x9, y9⟩ := (HC.out i x HX.out).1; rw [x0_1] at x9; cases x9; exact y9)) rfl
      obtain ⟨a1, c1, p1, s1⟩ := (HC.out i x HX.out).2.2.2.1
      have HM1 : Hid (∀ W, Rel lo hi w W → Calls Try.prog 13 #[.slice a1 x.fAfter.length c1, .int .i64 ((K0 : Int) + 1)] W fun e w' => e = .returned (.int .i64 ((K0 + 1 + cnS x.fAfter : Nat) : Int)) ∧ Rel lo hi W w') := fun W h => by
        have := markS_all lo hi a1 c1 x.fAfter (K0 + 1) W (s1.shp h.2.2.2) (by omega) (by have h9 := HCB.out;  unfold cn1Un at h9; omega)
        rwa [show ((K0 + 1 : Nat) : Int) = (K0 : Int) + 1 by omega] at this
      obtain ⟨v1, g1, l1, f1⟩ := cell_shp HB0.out.2.2.2 HBK.out p1
      rw [l1.1 rfl] at g1
      obtain ⟨z1, hz1⟩ : ∃ z, x.fAfter.length = z := ⟨_, rfl⟩
      obtain ⟨K2, hK2⟩ : ∃ z : Nat, K0 + 1 + cnS x.fAfter = z := ⟨_, rfl⟩
      have HK2 : Hid (K0 + 1 + cnS x.fAfter = K2) := hK2
      have hKb2 : K2 ≤ 100000000 ∧ 0 < K2 := ⟨by have h9 := HCB.out;  unfold cn1Un at h9; omega, by omega⟩
      rw [hK2, hz1] at HM1
      rw [hz1] at g1
      clear hK2 hz1 l1 s1 p1
      go_wp2_with (go_at_call 13; refine (HM1.out _ HR0_1.out).mono ?_; rintro e w1 ⟨rfl, hb1⟩; refine Hid.out ?_)
      refine Lib.hid ?_
      have HB1 : Hid (Rel lo hi w w1) := HR0_1.out.trans hb1
      clear hb1 HM1 g1 f1 g0_1 f0_1
      obtain ⟨a2, c2, p2, s2⟩ := (HC.out i x HX.out).2.2.2.2
      have HM2 : Hid (∀ W, Rel lo hi w W → Calls Try.prog 13 #[.slice a2 x.fNeeds.length c2, .int .i64 ((K2 : Int))] W fun e w' => e = .returned (.int .i64 ((K2 + 0 + cnS x.fNeeds : Nat) : Int)) ∧ Rel lo hi W w') := fun W h => by
        have := markS_all lo hi a2 c2 x.fNeeds (K2 + 0) W (s2.shp h.2.2.2) (by omega) (by have h9 := HCB.out; have h91 := HK2.out; unfold cn1Un at h9; omega)
        rwa [show ((K2 + 0 : Nat) : Int) = (K2 : Int) by omega] at this
      obtain ⟨v2, g2, l2, f2⟩ := cell_shp HB1.out.2.2.2 HBK.out p2
      rw [l2.1 rfl] at g2
      obtain ⟨z2, hz2⟩ : ∃ z, x.fNeeds.length = z := ⟨_, rfl⟩
      obtain ⟨K3, hK3⟩ : ∃ z : Nat, K2 + 0 + cnS x.fNeeds = z := ⟨_, rfl⟩
      have HK3 : Hid (K2 + 0 + cnS x.fNeeds = K3) := hK3
      have hKb3 : K3 ≤ 100000000 ∧ 0 < K3 := ⟨by have h9 := HCB.out; have h91 := HK2.out; unfold cn1Un at h9; omega, by omega⟩
      rw [hK3, hz2] at HM2
      rw [hz2] at g2
      clear hK3 hz2 l2 s2 p2
      go_wp2_with (go_at_call 13; refine (HM2.out _ HB1.out).mono ?_; rintro e w2 ⟨rfl, hb2⟩; refine Hid.out ?_)
      refine Lib.hid ?_
      have HB2 : Hid (Rel lo hi w w2) := HB1.out.trans hb2
      clear hb2 HM2 g2 f2 
      have HM3 : Hid (∀ W, Calls Try.prog 36 #[.int .i64 ((K3 : Int))] W fun e w' => e = .returned (.string (sr.mark (K3 + 0))) ∧ Below W.heap.size W w') := fun W => by
        have := sr.mark_any (K3 + 0) (by omega) (by omega) W
        rwa [show ((K3 + 0 : Nat) : Int) = (K3 : Int) by omega] at this
      generalize sr.mark (K3 + 0) = s3 at *
      go_wp2_with (go_at_call 36; refine (HM3.out _).mono ?_; rintro e w3 ⟨rfl, hb3⟩; refine Hid.out ?_)
      refine Lib.hid ?_
      have HB3 : Hid (Rel lo hi w w3) := HB2.out.below hb3
      clear hb3 HM3 
      obtain ⟨u3_4, x3_4, y3_4⟩ := (HC.out i x HX.out).2.1
      obtain ⟨v3_4, g3_4, l3_4, f3_4⟩ := cell_shp HB3.out.2.2.2 HBK.out x3_4
      have HZ3_4 : Hid (isSl v3_4 = false) := l3_4.2 y3_4
      clear y3_4 l3_4
      have HR3_4 : Hid (Rel lo hi w (w3.setCell ⟨b, o + i * 5 + 3, none⟩ (.string s3))) := by
        obtain ⟨v9, g9, l9, f9⟩ := cell_shp HB3.out.2.2.2 HBK.out x3_4
        obtain ⟨_, _, y9⟩ := (HC.out i x HX.out).2.1
        exact HB3.out.set hl hh g9 (l9.2 (by obtain ⟨u9, x9, y9⟩ := (HC.out i x HX.out).2.1; rw [x3_4] at x9; cases x9; exact y9)) rfl
      obtain ⟨t4, ht4⟩ : ∃ t, decide (((K3 : Int) + 1) % 3 = 0) = t := ⟨_, rfl⟩
      have ht4b : (((K3 : Int) + 1) % 3 == 0) = t4 := by rw [← ht4]; rfl
      obtain ⟨u4_4, x4_4, y4_4⟩ := (HC.out i x HX.out).2.2.1
      obtain ⟨v4_4, g4_4, l4_4, f4_4⟩ := cell_shp HB3.out.2.2.2 HBK.out x4_4
      have HZ4_4 : Hid (isSl v4_4 = false) := l4_4.2 y4_4
      clear y4_4 l4_4
      have HR4_4 : Hid (Rel lo hi w ((w3.setCell ⟨b, o + i * 5 + 3, none⟩ (.string s3)).setCell ⟨b, o + i * 5 + 4, none⟩ (.bool t4))) := by
        obtain ⟨v9, g9, l9, f9⟩ := cell_shp HR3_4.out.2.2.2 HBK.out x4_4
        obtain ⟨_, _, y9⟩ := (HC.out i x HX.out).2.2.1
        exact HR3_4.out.set hl hh g9 (l9.2 (by obtain ⟨u9, x9, y9⟩ := (HC.out i x HX.out).2.2.1; rw [x4_4] at x9; cases x9; exact y9)) rfl
      go_wp2
      go_roundw
      case rel => exact ⟨i + 1, by omega, by go_num, by (rw [HSU.out]; unfold cn1Un; have := HK2.out; have := HK3.out; have := HKK.out; go_num) , HR4_4.out⟩
      case measure => simp [intOf]; omega
    · have h' : ¬ (i : Int) < (n : Int) := by omega
      obtain rfl : i = n := by omega
      have HE : Hid (cnkUn l i = cnUn l) := by show _ = _; unfold cnUn; rw [HN.out]
      rw [HE.out]
      go_wp2
      go_ret
      exact ⟨rfl, HRL.out⟩

end Go.Proofs.Ytdddplhfhpghkaa.ty
