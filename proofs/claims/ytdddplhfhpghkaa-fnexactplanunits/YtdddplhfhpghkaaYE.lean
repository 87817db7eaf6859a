import Derived.Test.YtdddplhfhpghkaaYD
import Derived.Test.YtdddplhfhpghkaaYW
namespace Go.Proofs.Ytdddplhfhpghkaa.ty
open Go.ChangeShapes Go.WideShapes Go.ChangeAt Go.RowKit Go.Deep
set_option linter.unusedVariables false
set_option linter.unusedSimpArgs false

/-! ### The law's marks over lists that are own -/

/-- Rows of Ac, as they can be marked. -/
def MAc (lo hi : Nat) (w : World) (a : Option Addr) (l : List Ac) : Prop := ∃ b o, a = some ⟨b, o, none⟩ ∧ lo ≤ b ∧ b < hi ∧ (∃ cs t, w.heap[b]? = some (.cells cs t (0, 0))) ∧ ∀ (i : Nat) (x : Ac), l[i]? = some x → (∃ v, w.cell? ⟨b, o + i * 2, none⟩ = some v ∧ isSl v = false) ∧ (∃ v, w.cell? ⟨b, o + i * 2 + 1, none⟩ = some v ∧ isSl v = false)
def cn1Ac (x : Ac) : Nat := 2
def cnkAc (l : List Ac) (k : Nat) : Nat := ((l.take k).map cn1Ac).sum
def cnAc (l : List Ac) : Nat := cnkAc l l.length
theorem cnkAc_succ {l : List Ac} {k : Nat} {x : Ac} (h : l[k]? = some x) : cnkAc l (k + 1) = cnkAc l k + cn1Ac x := by
  unfold cnkAc
  rw [List.take_add_one, h]
  simp
theorem cnkAc_le (l : List Ac) (k : Nat) : cnkAc l k ≤ cnAc l := by
  unfold cnAc cnkAc
  rw [List.take_length]
  have : ((l.take k).map cn1Ac).sum + ((l.drop k).map cn1Ac).sum = (l.map cn1Ac).sum := by rw [← List.sum_append_nat, ← List.map_append, List.take_append_drop]
  omega
theorem cnAc_len (l : List Ac) : l.length ≤ cnAc l := by
  unfold cnAc cnkAc
  rw [List.take_length]
  induction l with
  | nil => simp
  | cons y l ih =>
    rw [List.map_cons, List.sum_cons, List.length_cons]
    have : 1 ≤ cn1Ac y := by unfold cn1Ac; omega
    omega
theorem cnAc_le (l : List Ac) : cnAc l ≤ 8 * wtAc l := by
  have h1 : ∀ x : Ac, cn1Ac x ≤ 8 * (1 + wt1Ac x) := fun x => by unfold cn1Ac wt1Ac;  omega
  unfold cnAc cnkAc wtAc wtkAc
  rw [List.take_length]
  induction l with
  | nil => simp
  | cons y l ih =>
    rw [List.map_cons, List.map_cons, List.sum_cons, List.sum_cons, List.length_cons]
    have := h1 y
    omega

theorem MAc.shp {lo hi : Nat} {w w' : World} {a : Option Addr} {l : List Ac} (h : MAc lo hi w a l) (k : Shp w w') : MAc lo hi w' a l := by
  obtain ⟨b, o, e, hA, hA2, hB, hX⟩ := h
  refine ⟨b, o, e, hA, hA2, blk_shp k hB, fun i x hx => ?_⟩
  obtain ⟨h0, h1⟩ := hX i x hx
  exact ⟨(by obtain ⟨v, g1, g2⟩ := h0; obtain ⟨v', k1, k2, _⟩ := cell_shp k hB g1; exact ⟨v', k1, k2.2 g2⟩), (by obtain ⟨v, g1, g2⟩ := h1; obtain ⟨v', k1, k2, _⟩ := cell_shp k hB g1; exact ⟨v', k1, k2.2 g2⟩)⟩
theorem MAc.src {lo : Nat} {w : World} {a : Option Addr} {l : List Ac} (h : SrcAc (some lo) w a l) : MAc lo w.heap.size w a l := by
  rcases h with ⟨h, _⟩ | ⟨b, o, e, h1, h2⟩
  · cases h
  · obtain ⟨g1, cs, t, g2⟩ := h1 lo rfl
    refine ⟨b, o, e, g1, (Array.getElem?_eq_some_iff.1 g2).1, ⟨cs, t, g2⟩, fun i x hx => ?_⟩
    obtain ⟨q0, q1⟩ := h2 i x hx
    exact ⟨⟨_, q0, rfl⟩, ⟨_, q1, rfl⟩⟩

set_option maxRecDepth 100000 in
set_option maxHeartbeats 2000000 in
theorem markAc_any (lo hi : Nat) (a : Option Addr) (c : Nat) (l : List Ac) (k0 : Nat) (w : World) (hM : MAc lo hi w a l) (h0 : 0 < k0) (hk : k0 + cnAc l ≤ 100000000) :
    Calls Try.prog 22 #[.slice a l.length c, .int .i64 (k0 : Int)] w fun e w' => e = .returned (.int .i64 ((k0 + cnAc l : Nat) : Int)) ∧ Rel lo hi w w' := by
  obtain ⟨b, o, rfl, hl, hh, hbk, hc⟩ := hM
  have HBK : Hid (∃ cs t, w.heap[b]? = some (.cells cs t (0, 0))) := hbk
  have HC : Hid (∀ (i : Nat) (x : Ac), l[i]? = some x → (∃ v, w.cell? ⟨b, o + i * 2, none⟩ = some v ∧ isSl v = false) ∧ (∃ v, w.cell? ⟨b, o + i * 2 + 1, none⟩ = some v ∧ isSl v = false)) := hc
  have HCL : Hid (∀ k, cnkAc l k ≤ cnAc l) := cnkAc_le l
  have HKL : Hid (k0 + cnAc l ≤ 100000000) := hk
  clear hbk hc hk
  obtain ⟨n, hn⟩ : ∃ n, l.length = n := ⟨_, rfl⟩
  have HN : Hid (l.length = n) := hn
  have hn9 : n ≤ 100000000 := by have h1 := cnAc_len l; have h2 := HKL.out; omega
  rw [hn]
  clear hn
  go_enter Try.func22, Try.ntmps22
  go_wp2
  go_loopw [1, 5] (fun a x wr => ∃ (i : Nat), i ≤ n ∧ x = .int .i64 (i : Int) ∧ a = .int .i64 ((k0 + cnkAc l i : Nat) : Int) ∧ Rel lo hi w wr) (fun _ x _ => n - (intOf x).toNat)
  case atStart => exact ⟨0, Nat.zero_le _, rfl, by simp [cnkAc], Rel.refl _ _ _⟩
  case round =>
    obtain ⟨i, hi', rfl, rfl, hrl⟩ := hrel
    have HRL : Hid (Rel lo hi w wr) := hrl
    clear hrl
    by_cases h : i < n
    · have h' : (i : Int) < (n : Int) := by omega
      have hi0 : (0 : Int) ≤ (i : Int) := by omega
      obtain ⟨x, hx⟩ : ∃ x, l[i]? = some x := ⟨_, List.getElem?_eq_getElem (by rw [HN.out]; exact h)⟩
      have HX : Hid (l[i]? = some x) := hx
      have HSU : Hid (cnkAc l (i + 1) = cnkAc l i + cn1Ac x) := cnkAc_succ hx
      obtain ⟨K0, hK0⟩ : ∃ K : Nat, k0 + cnkAc l i = K := ⟨_, rfl⟩
      have HKK : Hid (k0 + cnkAc l i = K0) := hK0
      have HCB : Hid (K0 + cn1Ac x ≤ 100000000) := by
        show _ ≤ _
        have h1 := HCL.out (i + 1)
        have h2 := HKL.out
        have h3 := HSU.out
        omega
      have hK0b : K0 ≤ 100000000 := by have := HCB.out; omega
      have hK0c : K0 + 2 ≤ 100000000 := by have h9 := HCB.out; unfold cn1Ac at h9; omega
      have hK0p : 0 < K0 := by omega
      rw [hK0]
      clear hK0 hx
      obtain ⟨u0_0, x0_0, y0_0⟩ := (HC.out i x HX.out).1
      obtain ⟨v0_0, g0_0, l0_0, f0_0⟩ := cell_shp HRL.out.2.2.2 HBK.out x0_0
      have HZ0_0 : Hid (isSl v0_0 = false) := l0_0.2 y0_0
      clear y0_0 l0_0
      have HR0_0 : Hid (Rel lo hi w (wr.setCell ⟨b, o + i * 2, none⟩ (.int .i64 ((K0 : Int))))) := by
        obtain ⟨v9, g9, l9, f9⟩ := cell_shp HRL.out.2.2.2 HBK.out x0_0
        obtain ⟨_, _, y9⟩ := (HC.out i x HX.out).1
        exact HRL.out.set hl hh g9 (l9.2 (by obtain ⟨u9, x9, y9⟩ := (HC.out i x HX.out).1; rw [x0_0] at x9; cases x9; exact y9)) rfl
      have HM1 : Hid (∀ W, Calls Try.prog 36 #[.int .i64 ((K0 : Int) + 1)] W fun e w' => e = .returned (.string (sr.mark (K0 + 1))) ∧ Below W.heap.size W w') := fun W => by
        have := sr.mark_any (K0 + 1) (by omega) (by omega) W
        rwa [show ((K0 + 1 : Nat) : Int) = (K0 : Int) + 1 by omega] at this
      generalize sr.mark (K0 + 1) = s1 at *
      go_wp2_with (go_at_call 36; refine (HM1.out _).mono ?_; rintro e w1 ⟨rfl, hb1⟩; refine Hid.out ?_)
      refine Lib.hid ?_
      have HB1 : Hid (Rel lo hi w w1) := HR0_0.out.below hb1
      clear hb1 HM1 g0_0 f0_0
      obtain ⟨u1_1, x1_1, y1_1⟩ := (HC.out i x HX.out).2
      obtain ⟨v1_1, g1_1, l1_1, f1_1⟩ := cell_shp HB1.out.2.2.2 HBK.out x1_1
      have HZ1_1 : Hid (isSl v1_1 = false) := l1_1.2 y1_1
      clear y1_1 l1_1
      have HR1_1 : Hid (Rel lo hi w (w1.setCell ⟨b, o + i * 2 + 1, none⟩ (.string s1))) := by
        obtain ⟨v9, g9, l9, f9⟩ := cell_shp HB1.out.2.2.2 HBK.out x1_1
        obtain ⟨_, _, y9⟩ := (HC.out i x HX.out).2
        exact HB1.out.set hl hh g9 (l9.2 (by obtain ⟨u9, x9, y9⟩ := (HC.out i x HX.out).2; rw [x1_1] at x9; cases x9; exact y9)) rfl
      go_wp2
      go_roundw
      case rel => exact ⟨i + 1, by omega, by go_num, by (rw [HSU.out]; unfold cn1Ac;  have := HKK.out; go_num) , HR1_1.out⟩
      case measure => simp [intOf]; omega
    · have h' : ¬ (i : Int) < (n : Int) := by omega
      obtain rfl : i = n := by omega
      have HE : Hid (cnkAc l i = cnAc l) := by show _ = _; unfold cnAc; rw [HN.out]
      rw [HE.out]
      go_wp2
      go_ret
      exact ⟨rfl, HRL.out⟩

end Go.Proofs.Ytdddplhfhpghkaa.ty

