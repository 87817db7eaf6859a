import Derived.Test.YtpfnnjfapcnbnaaGreatDoorYDp
import Derived.Test.YtpfnnjfapcnbnaaGreatDoorYW1p
set_option linter.unusedVariables false
set_option linter.unusedSimpArgs false
set_option maxRecDepth 100000
set_option maxHeartbeats 16000000
namespace Go.Proofs.YtpfnnjfapcnbnaaGreatDoor.ty
open Go.ChangeShapes Go.WideShapes Go.ChangeAt Go.RowKit Go.Deep
def MGe (lo hi : Nat) (w : World) (a : Option Addr) (l : List Ge) : Prop := ∃ b o, a = some ⟨b, o, none⟩ ∧ lo ≤ b ∧ b < hi ∧ (∃ cs t, w.heap[b]? = some (.cells cs t (0, 0))) ∧ ∀ (i : Nat) (x : Ge), l[i]? = some x → (∃ v, w.cell? ⟨b, o + i * 2, none⟩ = some v ∧ isSl v = false) ∧ (∃ v, w.cell? ⟨b, o + i * 2 + 1, none⟩ = some v ∧ isSl v = false)
def cn1Ge (x : Ge) : Nat := 2
def cnkGe (l : List Ge) (k : Nat) : Nat := ((l.take k).map cn1Ge).sum
def cnGe (l : List Ge) : Nat := cnkGe l l.length
theorem cnkGe_succ {l : List Ge} {k : Nat} {x : Ge} (h : l[k]? = some x) : cnkGe l (k + 1) = cnkGe l k + cn1Ge x := by
 unfold cnkGe
 rw [List.take_add_one, h]
 simp
theorem cnkGe_le (l : List Ge) (k : Nat) : cnkGe l k ≤ cnGe l := by
 unfold cnGe cnkGe
 rw [List.take_length]
 have : ((l.take k).map cn1Ge).sum + ((l.drop k).map cn1Ge).sum = (l.map cn1Ge).sum := by rw [← List.sum_append_nat, ← List.map_append, List.take_append_drop]
 omega
theorem cnGe_len (l : List Ge) : l.length ≤ cnGe l := by
 unfold cnGe cnkGe
 rw [List.take_length]
 induction l with
 | nil => simp
 | cons y l ih =>
  rw [List.map_cons, List.sum_cons, List.length_cons]
  have : 1 ≤ cn1Ge y := by unfold cn1Ge; omega
  omega
theorem cnGe_le (l : List Ge) : cnGe l ≤ 8 * wtGe l := by
 have h1 : ∀ x : Ge, cn1Ge x ≤ 8 * (1 + wt1Ge x) := fun x => by unfold cn1Ge wt1Ge;  omega
 unfold cnGe cnkGe wtGe wtkGe
 rw [List.take_length]
 induction l with
 | nil => simp
 | cons y l ih =>
  rw [List.map_cons, List.map_cons, List.sum_cons, List.sum_cons, List.length_cons]
  have := h1 y
  omega
theorem MGe.shp {lo hi : Nat} {w w' : World} {a : Option Addr} {l : List Ge} (h : MGe lo hi w a l) (k : Shp w w') : MGe lo hi w' a l := by
 obtain ⟨b, o, e, hA, hA2, hB, hX⟩ := h
 refine ⟨b, o, e, hA, hA2, blk_shp k hB, fun i x hx => ?_⟩
 obtain ⟨h0, h1⟩ := hX i x hx
 exact ⟨(by obtain ⟨v, g1, g2⟩ := h0; obtain ⟨v', k1, k2, _⟩ := cell_shp k hB g1; exact ⟨v', k1, k2.2 g2⟩), (by obtain ⟨v, g1, g2⟩ := h1; obtain ⟨v', k1, k2, _⟩ := cell_shp k hB g1; exact ⟨v', k1, k2.2 g2⟩)⟩
theorem MGe.src {lo : Nat} {w : World} {a : Option Addr} {l : List Ge} (h : SrcGe (some lo) w a l) : MGe lo w.heap.size w a l := by
 rcases h with ⟨h, _⟩ | ⟨b, o, e, h1, h2⟩
 ·cases h
 ·obtain ⟨g1, cs, t, g2⟩ := h1 lo rfl
  refine ⟨b, o, e, g1, (Array.getElem?_eq_some_iff.1 g2).1, ⟨cs, t, g2⟩, fun i x hx => ?_⟩
  obtain ⟨q0, q1⟩ := h2 i x hx
  exact ⟨⟨_, q0, rfl⟩, ⟨_, q1, rfl⟩⟩
theorem markGe_any (lo hi : Nat) (a : Option Addr) (c : Nat) (l : List Ge) (k0 : Nat) (w : World) (hM : MGe lo hi w a l) (h0 : 0 < k0) (hk : k0 + cnGe l ≤ 100000000) :
  Calls Tryz.prog 128 #[.slice a l.length c, .int .i64 (k0 : Int)] w fun e w' => e = .returned (.int .i64 ((k0 + cnGe l : Nat) : Int)) ∧ Rel lo hi w w' := by
 obtain ⟨b, o, rfl, hl, hh, hbk, hc⟩ := hM
 have HBK := Lib.hid hbk
 have HC := Lib.hid hc
 have HCL := Lib.hid (cnkGe_le l)
 have HKL : Hid (k0 + cnGe l ≤ 100000000) := hk
 clear hbk hc hk
 obtain ⟨n, hn⟩ : ∃ n, l.length = n := ⟨_, rfl⟩
 have HN : Hid (l.length = n) := hn
 have hn9 : n ≤ 100000000 := by have h1 := cnGe_len l; have h2 := HKL.out; omega
 rw [hn]
 clear hn
 go_enter Tryz.func128, Tryz.ntmps128
 go_wp2
 go_loopw [1, 5] (fun a x wr => ∃ (i : Nat), i ≤ n ∧ x = .int .i64 (i : Int) ∧ a = .int .i64 ((k0 + cnkGe l i : Nat) : Int) ∧ Rel lo hi w wr) (fun _ x _ => n - (intOf x).toNat)
 case atStart => exact ⟨0, Nat.zero_le _, rfl, by simp [cnkGe], Rel.refl _ _ _⟩
 case round =>
  obtain ⟨i, hi', rfl, rfl, hrl⟩ := hrel
  have HRL : Hid (Rel lo hi w wr) := hrl
  clear hrl
  by_cases h : i < n
  ·have h' : (i : Int) < (n : Int) := by omega
   have hi0 : (0 : Int) ≤ (i : Int) := by omega
   obtain ⟨x, hx⟩ : ∃ x, l[i]? = some x := ⟨_, List.getElem?_eq_getElem (by rw [HN.out]; exact h)⟩
   have HX : Hid (l[i]? = some x) := hx
   have HSU := Lib.hid (cnkGe_succ hx)
   obtain ⟨K0, hK0⟩ : ∃ K : Nat, k0 + cnkGe l i = K := ⟨_, rfl⟩
   have HKK : Hid (k0 + cnkGe l i = K0) := hK0
   have HCB : Hid (K0 + cn1Ge x ≤ 100000000) := by
    show _ ≤ _
    have h1 := HCL.out (i + 1)
    have h2 := HKL.out
    have h3 := HSU.out
    omega
   have hK0b : K0 ≤ 100000000 := by have := HCB.out; omega
   have hK0c : K0 + 2 ≤ 100000000 := by have h9 := HCB.out; unfold cn1Ge at h9; omega
   have hK0p : 0 < K0 := by omega
   rw [hK0]
   clear hK0 hx
   obtain ⟨u0_0, x0_0, y0_0⟩ := (HC.out i x HX.out).1
   obtain ⟨v0_0, g0_0, l0_0, f0_0⟩ := cell_shp HRL.out.2.2.2 HBK.out x0_0
   have HZ0_0 : Hid (isSl v0_0 = false) := l0_0.2 y0_0
   clear y0_0 l0_0
   have HR0_0 : Hid (Rel lo hi w (wr.setCell ⟨b, o + i * 2, none⟩ (.int .i64 ((K0 : Int))))) := by
    obtain ⟨v9, g9, l9, f9⟩ := cell_shp HRL.out.2.2.2 HBK.out x0_0
    obtain ⟨_, _, y9⟩ := (HC.out i x HX.out).1
    exact HRL.out.set hl hh g9 (l9.2 (by obtain ⟨u9, x9, y9⟩ := (HC.out i x HX.out).1; rw [x0_0] at x9; cases x9; exact y9)) rfl
   have HM1 : Hid (∀ W, Calls Tryz.prog 62 #[.int .i64 ((K0 : Int) + 1)] W fun e w' => e = .returned (.string (sr.mark (K0 + 1))) ∧ Below W.heap.size W w') := fun W => by
    have := sr.mark_any (K0 + 1) (by omega) (by omega) W
    rwa [show ((K0 + 1 : Nat) : Int) = (K0 : Int) + 1 by omega] at this
   generalize sr.mark (K0 + 1) = s1 at *
   go_wp2_with (go_at_call 62; refine (HM1.out _).mono ?_; rintro e w1 ⟨rfl, hb1⟩; refine Hid.out ?_)
   refine Lib.hid ?_
   have HB1 : Hid (Rel lo hi w w1) := HR0_0.out.below hb1
   clear hb1 HM1 g0_0 f0_0
   obtain ⟨u1_1, x1_1, y1_1⟩ := (HC.out i x HX.out).2
   obtain ⟨v1_1, g1_1, l1_1, f1_1⟩ := cell_shp HB1.out.2.2.2 HBK.out x1_1
   have HZ1_1 : Hid (isSl v1_1 = false) := l1_1.2 y1_1
   clear y1_1 l1_1
   have HR1_1 : Hid (Rel lo hi w (w1.setCell ⟨b, o + i * 2 + 1, none⟩ (.string s1))) := by
    obtain ⟨v9, g9, l9, f9⟩ := cell_shp HB1.out.2.2.2 HBK.out x1_1
    obtain ⟨_, _, y9⟩ := (HC.out i x HX.out).2
    exact HB1.out.set hl hh g9 (l9.2 (by obtain ⟨u9, x9, y9⟩ := (HC.out i x HX.out).2; rw [x1_1] at x9; cases x9; exact y9)) rfl
   go_wp2
   go_roundw
   case rel => exact ⟨i + 1, by omega, by go_num, by (rw [HSU.out]; unfold cn1Ge;  have := HKK.out; go_num) , HR1_1.out⟩
   case measure => simp [intOf]; omega
  ·have h' : ¬ (i : Int) < (n : Int) := by omega
   obtain rfl : i = n := by omega
   have HE : Hid (cnkGe l i = cnGe l) := by show _ = _; unfold cnGe; rw [HN.out]
   rw [HE.out]
   go_wp2
   go_ret
   exact ⟨rfl, HRL.out⟩
def MPr (lo hi : Nat) (w : World) (a : Option Addr) (l : List Pr) : Prop := ∃ b o, a = some ⟨b, o, none⟩ ∧ lo ≤ b ∧ b < hi ∧ (∃ cs t, w.heap[b]? = some (.cells cs t (0, 0))) ∧ ∀ (i : Nat) (x : Pr), l[i]? = some x → (∃ v, w.cell? ⟨b, o + i * 3, none⟩ = some v ∧ isSl v = false) ∧ (∃ v, w.cell? ⟨b, o + i * 3 + 1, none⟩ = some v ∧ isSl v = false) ∧ (∃ a2 c2, w.cell? ⟨b, o + i * 3 + 2, none⟩ = some (.slice a2 x.fGens.length c2) ∧ MGe lo hi w a2 x.fGens)
def cn1Pr (x : Pr) : Nat := 2 + cnGe x.fGens
def cnkPr (l : List Pr) (k : Nat) : Nat := ((l.take k).map cn1Pr).sum
def cnPr (l : List Pr) : Nat := cnkPr l l.length
theorem cnkPr_succ {l : List Pr} {k : Nat} {x : Pr} (h : l[k]? = some x) : cnkPr l (k + 1) = cnkPr l k + cn1Pr x := by
 unfold cnkPr
 rw [List.take_add_one, h]
 simp
theorem cnkPr_le (l : List Pr) (k : Nat) : cnkPr l k ≤ cnPr l := by
 unfold cnPr cnkPr
 rw [List.take_length]
 have : ((l.take k).map cn1Pr).sum + ((l.drop k).map cn1Pr).sum = (l.map cn1Pr).sum := by rw [← List.sum_append_nat, ← List.map_append, List.take_append_drop]
 omega
theorem cnPr_len (l : List Pr) : l.length ≤ cnPr l := by
 unfold cnPr cnkPr
 rw [List.take_length]
 induction l with
 | nil => simp
 | cons y l ih =>
  rw [List.map_cons, List.sum_cons, List.length_cons]
  have : 1 ≤ cn1Pr y := by unfold cn1Pr; omega
  omega
theorem cnPr_le (l : List Pr) : cnPr l ≤ 8 * wtPr l := by
 have h1 : ∀ x : Pr, cn1Pr x ≤ 8 * (1 + wt1Pr x) := fun x => by unfold cn1Pr wt1Pr; have := cnGe_le x.fGens; omega
 unfold cnPr cnkPr wtPr wtkPr
 rw [List.take_length]
 induction l with
 | nil => simp
 | cons y l ih =>
  rw [List.map_cons, List.map_cons, List.sum_cons, List.sum_cons, List.length_cons]
  have := h1 y
  omega
theorem MPr.shp {lo hi : Nat} {w w' : World} {a : Option Addr} {l : List Pr} (h : MPr lo hi w a l) (k : Shp w w') : MPr lo hi w' a l := by
 obtain ⟨b, o, e, hA, hA2, hB, hX⟩ := h
 refine ⟨b, o, e, hA, hA2, blk_shp k hB, fun i x hx => ?_⟩
 obtain ⟨h0, h1, h2⟩ := hX i x hx
 exact ⟨(by obtain ⟨v, g1, g2⟩ := h0; obtain ⟨v', k1, k2, _⟩ := cell_shp k hB g1; exact ⟨v', k1, k2.2 g2⟩), (by obtain ⟨v, g1, g2⟩ := h1; obtain ⟨v', k1, k2, _⟩ := cell_shp k hB g1; exact ⟨v', k1, k2.2 g2⟩), (by obtain ⟨a, c, g1, g2⟩ := h2; obtain ⟨v', k1, k2, _⟩ := cell_shp k hB g1; exact ⟨a, c, by rw [k1, k2.1 rfl], g2.shp k⟩)⟩
theorem MPr.src {lo : Nat} {w : World} {a : Option Addr} {l : List Pr} (h : SrcPr (some lo) w a l) : MPr lo w.heap.size w a l := by
 rcases h with ⟨h, _⟩ | ⟨b, o, e, h1, h2⟩
 ·cases h
 ·obtain ⟨g1, cs, t, g2⟩ := h1 lo rfl
  refine ⟨b, o, e, g1, (Array.getElem?_eq_some_iff.1 g2).1, ⟨cs, t, g2⟩, fun i x hx => ?_⟩
  obtain ⟨a2, c2, q0, q1, q2, s2, t2⟩ := h2 i x hx
  exact ⟨⟨_, q0, rfl⟩, ⟨_, q1, rfl⟩, ⟨a2, c2, q2, MGe.src s2⟩⟩
theorem markPr_any (lo hi : Nat) (a : Option Addr) (c : Nat) (l : List Pr) (k0 : Nat) (w : World) (hM : MPr lo hi w a l) (h0 : 0 < k0) (hk : k0 + cnPr l ≤ 100000000) :
  Calls Tryz.prog 70 #[.slice a l.length c, .int .i64 (k0 : Int)] w fun e w' => e = .returned (.int .i64 ((k0 + cnPr l : Nat) : Int)) ∧ Rel lo hi w w' := by
 obtain ⟨b, o, rfl, hl, hh, hbk, hc⟩ := hM
 have HBK := Lib.hid hbk
 have HC := Lib.hid hc
 have HCL := Lib.hid (cnkPr_le l)
 have HKL : Hid (k0 + cnPr l ≤ 100000000) := hk
 clear hbk hc hk
 obtain ⟨n, hn⟩ : ∃ n, l.length = n := ⟨_, rfl⟩
 have HN : Hid (l.length = n) := hn
 have hn9 : n ≤ 100000000 := by have h1 := cnPr_len l; have h2 := HKL.out; omega
 rw [hn]
 clear hn
 go_enter Tryz.func70, Tryz.ntmps70
 go_wp2
 go_loopw [1, 5] (fun a x wr => ∃ (i : Nat), i ≤ n ∧ x = .int .i64 (i : Int) ∧ a = .int .i64 ((k0 + cnkPr l i : Nat) : Int) ∧ Rel lo hi w wr) (fun _ x _ => n - (intOf x).toNat)
 case atStart => exact ⟨0, Nat.zero_le _, rfl, by simp [cnkPr], Rel.refl _ _ _⟩
 case round =>
  obtain ⟨i, hi', rfl, rfl, hrl⟩ := hrel
  have HRL : Hid (Rel lo hi w wr) := hrl
  clear hrl
  by_cases h : i < n
  ·have h' : (i : Int) < (n : Int) := by omega
   have hi0 : (0 : Int) ≤ (i : Int) := by omega
   obtain ⟨x, hx⟩ : ∃ x, l[i]? = some x := ⟨_, List.getElem?_eq_getElem (by rw [HN.out]; exact h)⟩
   have HX : Hid (l[i]? = some x) := hx
   have HSU := Lib.hid (cnkPr_succ hx)
   obtain ⟨K0, hK0⟩ : ∃ K : Nat, k0 + cnkPr l i = K := ⟨_, rfl⟩
   have HKK : Hid (k0 + cnkPr l i = K0) := hK0
   have HCB : Hid (K0 + cn1Pr x ≤ 100000000) := by
    show _ ≤ _
    have h1 := HCL.out (i + 1)
    have h2 := HKL.out
    have h3 := HSU.out
    omega
   have hK0b : K0 ≤ 100000000 := by have := HCB.out; omega
   have hK0c : K0 + 2 ≤ 100000000 := by have h9 := HCB.out; unfold cn1Pr at h9; omega
   have hK0p : 0 < K0 := by omega
   rw [hK0]
   clear hK0 hx
   have HM0 : Hid (∀ W, Calls Tryz.prog 62 #[.int .i64 ((K0 : Int))] W fun e w' => e = .returned (.string (sr.mark (K0 + 0))) ∧ Below W.heap.size W w') := fun W => by
    have := sr.mark_any (K0 + 0) (by omega) (by omega) W
    rwa [show ((K0 + 0 : Nat) : Int) = (K0 : Int) by omega] at this
   generalize sr.mark (K0 + 0) = s0 at *
   go_wp2_with (go_at_call 62; refine (HM0.out _).mono ?_; rintro e w0 ⟨rfl, hb0⟩; refine Hid.out ?_)
   refine Lib.hid ?_
   have HB0 : Hid (Rel lo hi w w0) := HRL.out.below hb0
   clear hb0 HM0 
   obtain ⟨u0_1, x0_1, y0_1⟩ := (HC.out i x HX.out).1
   obtain ⟨v0_1, g0_1, l0_1, f0_1⟩ := cell_shp HB0.out.2.2.2 HBK.out x0_1
   have HZ0_1 : Hid (isSl v0_1 = false) := l0_1.2 y0_1
   clear y0_1 l0_1
   have HR0_1 : Hid (Rel lo hi w (w0.setCell ⟨b, o + i * 3, none⟩ (.string s0))) := by
    obtain ⟨v9, g9, l9, f9⟩ := cell_shp HB0.out.2.2.2 HBK.out x0_1
    obtain ⟨_, _, y9⟩ := (HC.out i x HX.out).1
    exact HB0.out.set hl hh g9 (l9.2 (by obtain ⟨u9, x9, y9⟩ := (HC.out i x HX.out).1; rw [x0_1] at x9; cases x9; exact y9)) rfl
   obtain ⟨u1_1, x1_1, y1_1⟩ := (HC.out i x HX.out).2.1
   obtain ⟨v1_1, g1_1, l1_1, f1_1⟩ := cell_shp HB0.out.2.2.2 HBK.out x1_1
   have HZ1_1 : Hid (isSl v1_1 = false) := l1_1.2 y1_1
   clear y1_1 l1_1
   have HR1_1 : Hid (Rel lo hi w ((w0.setCell ⟨b, o + i * 3, none⟩ (.string s0)).setCell ⟨b, o + i * 3 + 1, none⟩ (.int .i64 ((K0 : Int) + 1)))) := by
    obtain ⟨v9, g9, l9, f9⟩ := cell_shp HR0_1.out.2.2.2 HBK.out x1_1
    obtain ⟨_, _, y9⟩ := (HC.out i x HX.out).2.1
    exact HR0_1.out.set hl hh g9 (l9.2 (by obtain ⟨u9, x9, y9⟩ := (HC.out i x HX.out).2.1; rw [x1_1] at x9; cases x9; exact y9)) rfl
   obtain ⟨a2, c2, p2, s2⟩ := (HC.out i x HX.out).2.2
   have HM2 : Hid (∀ W, Rel lo hi w W → Calls Tryz.prog 128 #[.slice a2 x.fGens.length c2, .int .i64 ((K0 : Int) + 1 + 1)] W fun e w' => e = .returned (.int .i64 ((K0 + 2 + cnGe x.fGens : Nat) : Int)) ∧ Rel lo hi W w') := fun W h => by
    have := markGe_any lo hi a2 c2 x.fGens (K0 + 2) W (s2.shp h.2.2.2) (by omega) (by have h9 := HCB.out;  unfold cn1Pr at h9; omega)
    rwa [show ((K0 + 2 : Nat) : Int) = (K0 : Int) + 1 + 1 by omega] at this
   obtain ⟨v2, g2, l2, f2⟩ := cell_shp HB0.out.2.2.2 HBK.out p2
   rw [l2.1 rfl] at g2
   obtain ⟨z2, hz2⟩ : ∃ z, x.fGens.length = z := ⟨_, rfl⟩
   obtain ⟨K3, hK3⟩ : ∃ z : Nat, K0 + 2 + cnGe x.fGens = z := ⟨_, rfl⟩
   have HK3 := Lib.hid hK3
   have hKb3 : K3 ≤ 100000000 ∧ 0 < K3 := ⟨by have h9 := HCB.out;  unfold cn1Pr at h9; omega, by omega⟩
   rw [hK3, hz2] at HM2
   rw [hz2] at g2
   clear hK3 hz2 l2 s2 p2
   go_wp2_with (go_at_call 128; refine (HM2.out _ HR1_1.out).mono ?_; rintro e w2 ⟨rfl, hb2⟩; refine Hid.out ?_)
   refine Lib.hid ?_
   have HB2 : Hid (Rel lo hi w w2) := HR1_1.out.trans hb2
   clear hb2 HM2 g2 f2 g0_1 f0_1 g1_1 f1_1
   go_wp2
   go_roundw
   case rel => exact ⟨i + 1, by omega, by go_num, by (rw [HSU.out]; unfold cn1Pr; have := HK3.out; have := HKK.out; go_num) , HB2.out⟩
   case measure => simp [intOf]; omega
  ·have h' : ¬ (i : Int) < (n : Int) := by omega
   obtain rfl : i = n := by omega
   have HE : Hid (cnkPr l i = cnPr l) := by show _ = _; unfold cnPr; rw [HN.out]
   rw [HE.out]
   go_wp2
   go_ret
   exact ⟨rfl, HRL.out⟩
def MPe (lo hi : Nat) (w : World) (a : Option Addr) (l : List Pe) : Prop := ∃ b o, a = some ⟨b, o, none⟩ ∧ lo ≤ b ∧ b < hi ∧ (∃ cs t, w.heap[b]? = some (.cells cs t (0, 0))) ∧ ∀ (i : Nat) (x : Pe), l[i]? = some x → (∃ v, w.cell? ⟨b, o + i * 3, none⟩ = some v ∧ isSl v = false) ∧ (∃ v, w.cell? ⟨b, o + i * 3 + 2, none⟩ = some v ∧ isSl v = false) ∧ (∃ a1 c1, w.cell? ⟨b, o + i * 3 + 1, none⟩ = some (.slice a1 x.fTree.length c1) ∧ MEt lo hi w a1 x.fTree)
def cn1Pe (x : Pe) : Nat := 2 + cnEt x.fTree
def cnkPe (l : List Pe) (k : Nat) : Nat := ((l.take k).map cn1Pe).sum
def cnPe (l : List Pe) : Nat := cnkPe l l.length
theorem cnkPe_succ {l : List Pe} {k : Nat} {x : Pe} (h : l[k]? = some x) : cnkPe l (k + 1) = cnkPe l k + cn1Pe x := by
 unfold cnkPe
 rw [List.take_add_one, h]
 simp
theorem cnkPe_le (l : List Pe) (k : Nat) : cnkPe l k ≤ cnPe l := by
 unfold cnPe cnkPe
 rw [List.take_length]
 have : ((l.take k).map cn1Pe).sum + ((l.drop k).map cn1Pe).sum = (l.map cn1Pe).sum := by rw [← List.sum_append_nat, ← List.map_append, List.take_append_drop]
 omega
theorem cnPe_len (l : List Pe) : l.length ≤ cnPe l := by
 unfold cnPe cnkPe
 rw [List.take_length]
 induction l with
 | nil => simp
 | cons y l ih =>
  rw [List.map_cons, List.sum_cons, List.length_cons]
  have : 1 ≤ cn1Pe y := by unfold cn1Pe; omega
  omega
theorem cnPe_le (l : List Pe) : cnPe l ≤ 8 * wtPe l := by
 have h1 : ∀ x : Pe, cn1Pe x ≤ 8 * (1 + wt1Pe x) := fun x => by unfold cn1Pe wt1Pe; have := cnEt_le x.fTree; omega
 unfold cnPe cnkPe wtPe wtkPe
 rw [List.take_length]
 induction l with
 | nil => simp
 | cons y l ih =>
  rw [List.map_cons, List.map_cons, List.sum_cons, List.sum_cons, List.length_cons]
  have := h1 y
  omega
theorem MPe.shp {lo hi : Nat} {w w' : World} {a : Option Addr} {l : List Pe} (h : MPe lo hi w a l) (k : Shp w w') : MPe lo hi w' a l := by
 obtain ⟨b, o, e, hA, hA2, hB, hX⟩ := h
 refine ⟨b, o, e, hA, hA2, blk_shp k hB, fun i x hx => ?_⟩
 obtain ⟨h0, h1, h2⟩ := hX i x hx
 exact ⟨(by obtain ⟨v, g1, g2⟩ := h0; obtain ⟨v', k1, k2, _⟩ := cell_shp k hB g1; exact ⟨v', k1, k2.2 g2⟩), (by obtain ⟨v, g1, g2⟩ := h1; obtain ⟨v', k1, k2, _⟩ := cell_shp k hB g1; exact ⟨v', k1, k2.2 g2⟩), (by obtain ⟨a, c, g1, g2⟩ := h2; obtain ⟨v', k1, k2, _⟩ := cell_shp k hB g1; exact ⟨a, c, by rw [k1, k2.1 rfl], g2.shp k⟩)⟩
theorem MPe.src {lo : Nat} {w : World} {a : Option Addr} {l : List Pe} (h : SrcPe (some lo) w a l) : MPe lo w.heap.size w a l := by
 rcases h with ⟨h, _⟩ | ⟨b, o, e, h1, h2⟩
 ·cases h
 ·obtain ⟨g1, cs, t, g2⟩ := h1 lo rfl
  refine ⟨b, o, e, g1, (Array.getElem?_eq_some_iff.1 g2).1, ⟨cs, t, g2⟩, fun i x hx => ?_⟩
  obtain ⟨a1, c1, q0, q1, q2, s1, t1⟩ := h2 i x hx
  exact ⟨⟨_, q0, rfl⟩, ⟨_, q2, rfl⟩, ⟨a1, c1, q1, MEt.src s1⟩⟩
theorem markPe_any (lo hi : Nat) (a : Option Addr) (c : Nat) (l : List Pe) (k0 : Nat) (w : World) (hM : MPe lo hi w a l) (h0 : 0 < k0) (hk : k0 + cnPe l ≤ 100000000) :
  Calls Tryz.prog 71 #[.slice a l.length c, .int .i64 (k0 : Int)] w fun e w' => e = .returned (.int .i64 ((k0 + cnPe l : Nat) : Int)) ∧ Rel lo hi w w' := by
 obtain ⟨b, o, rfl, hl, hh, hbk, hc⟩ := hM
 have HBK := Lib.hid hbk
 have HC := Lib.hid hc
 have HCL := Lib.hid (cnkPe_le l)
 have HKL : Hid (k0 + cnPe l ≤ 100000000) := hk
 clear hbk hc hk
 obtain ⟨n, hn⟩ : ∃ n, l.length = n := ⟨_, rfl⟩
 have HN : Hid (l.length = n) := hn
 have hn9 : n ≤ 100000000 := by have h1 := cnPe_len l; have h2 := HKL.out; omega
 rw [hn]
 clear hn
 go_enter Tryz.func71, Tryz.ntmps71
 go_wp2
 go_loopw [1, 5] (fun a x wr => ∃ (i : Nat), i ≤ n ∧ x = .int .i64 (i : Int) ∧ a = .int .i64 ((k0 + cnkPe l i : Nat) : Int) ∧ Rel lo hi w wr) (fun _ x _ => n - (intOf x).toNat)
 case atStart => exact ⟨0, Nat.zero_le _, rfl, by simp [cnkPe], Rel.refl _ _ _⟩
 case round =>
  obtain ⟨i, hi', rfl, rfl, hrl⟩ := hrel
  have HRL : Hid (Rel lo hi w wr) := hrl
  clear hrl
  by_cases h : i < n
  ·have h' : (i : Int) < (n : Int) := by omega
   have hi0 : (0 : Int) ≤ (i : Int) := by omega
   obtain ⟨x, hx⟩ : ∃ x, l[i]? = some x := ⟨_, List.getElem?_eq_getElem (by rw [HN.out]; exact h)⟩
   have HX : Hid (l[i]? = some x) := hx
   have HSU := Lib.hid (cnkPe_succ hx)
   obtain ⟨K0, hK0⟩ : ∃ K : Nat, k0 + cnkPe l i = K := ⟨_, rfl⟩
   have HKK : Hid (k0 + cnkPe l i = K0) := hK0
   have HCB : Hid (K0 + cn1Pe x ≤ 100000000) := by
    show _ ≤ _
    have h1 := HCL.out (i + 1)
    have h2 := HKL.out
    have h3 := HSU.out
    omega
   have hK0b : K0 ≤ 100000000 := by have := HCB.out; omega
   have hK0c : K0 + 2 ≤ 100000000 := by have h9 := HCB.out; unfold cn1Pe at h9; omega
   have hK0p : 0 < K0 := by omega
   rw [hK0]
   clear hK0 hx
   have HM0 : Hid (∀ W, Calls Tryz.prog 62 #[.int .i64 ((K0 : Int))] W fun e w' => e = .returned (.string (sr.mark (K0 + 0))) ∧ Below W.heap.size W w') := fun W => by
    have := sr.mark_any (K0 + 0) (by omega) (by omega) W
    rwa [show ((K0 + 0 : Nat) : Int) = (K0 : Int) by omega] at this
   generalize sr.mark (K0 + 0) = s0 at *
   go_wp2_with (go_at_call 62; refine (HM0.out _).mono ?_; rintro e w0 ⟨rfl, hb0⟩; refine Hid.out ?_)
   refine Lib.hid ?_
   have HB0 : Hid (Rel lo hi w w0) := HRL.out.below hb0
   clear hb0 HM0 
   obtain ⟨u0_1, x0_1, y0_1⟩ := (HC.out i x HX.out).1
   obtain ⟨v0_1, g0_1, l0_1, f0_1⟩ := cell_shp HB0.out.2.2.2 HBK.out x0_1
   have HZ0_1 : Hid (isSl v0_1 = false) := l0_1.2 y0_1
   clear y0_1 l0_1
   have HR0_1 : Hid (Rel lo hi w (w0.setCell ⟨b, o + i * 3, none⟩ (.string s0))) := by
    obtain ⟨v9, g9, l9, f9⟩ := cell_shp HB0.out.2.2.2 HBK.out x0_1
    obtain ⟨_, _, y9⟩ := (HC.out i x HX.out).1
    exact HB0.out.set hl hh g9 (l9.2 (by obtain ⟨u9, x9, y9⟩ := (HC.out i x HX.out).1; rw [x0_1] at x9; cases x9; exact y9)) rfl
   obtain ⟨a1, c1, p1, s1⟩ := (HC.out i x HX.out).2.2
   have HM1 : Hid (∀ W, Rel lo hi w W → Calls Tryz.prog 20 #[.slice a1 x.fTree.length c1, .int .i64 ((K0 : Int) + 1)] W fun e w' => e = .returned (.int .i64 ((K0 + 1 + cnEt x.fTree : Nat) : Int)) ∧ Rel lo hi W w') := fun W h => by
    have := markEt_any lo hi a1 c1 x.fTree (K0 + 1) W (s1.shp h.2.2.2) (by omega) (by have h9 := HCB.out;  unfold cn1Pe at h9; omega)
    rwa [show ((K0 + 1 : Nat) : Int) = (K0 : Int) + 1 by omega] at this
   obtain ⟨v1, g1, l1, f1⟩ := cell_shp HB0.out.2.2.2 HBK.out p1
   rw [l1.1 rfl] at g1
   obtain ⟨z1, hz1⟩ : ∃ z, x.fTree.length = z := ⟨_, rfl⟩
   obtain ⟨K2, hK2⟩ : ∃ z : Nat, K0 + 1 + cnEt x.fTree = z := ⟨_, rfl⟩
   have HK2 := Lib.hid hK2
   have hKb2 : K2 ≤ 100000000 ∧ 0 < K2 := ⟨by have h9 := HCB.out;  unfold cn1Pe at h9; omega, by omega⟩
   rw [hK2, hz1] at HM1
   rw [hz1] at g1
   clear hK2 hz1 l1 s1 p1
   go_wp2_with (go_at_call 20; refine (HM1.out _ HR0_1.out).mono ?_; rintro e w1 ⟨rfl, hb1⟩; refine Hid.out ?_)
   refine Lib.hid ?_
   have HB1 : Hid (Rel lo hi w w1) := HR0_1.out.trans hb1
   clear hb1 HM1 g1 f1 g0_1 f0_1
   have HM2 : Hid (∀ W, Calls Tryz.prog 62 #[.int .i64 ((K2 : Int))] W fun e w' => e = .returned (.string (sr.mark (K2 + 0))) ∧ Below W.heap.size W w') := fun W => by
    have := sr.mark_any (K2 + 0) (by omega) (by omega) W
    rwa [show ((K2 + 0 : Nat) : Int) = (K2 : Int) by omega] at this
   generalize sr.mark (K2 + 0) = s2 at *
   go_wp2_with (go_at_call 62; refine (HM2.out _).mono ?_; rintro e w2 ⟨rfl, hb2⟩; refine Hid.out ?_)
   refine Lib.hid ?_
   have HB2 : Hid (Rel lo hi w w2) := HB1.out.below hb2
   clear hb2 HM2 
   obtain ⟨u2_3, x2_3, y2_3⟩ := (HC.out i x HX.out).2.1
   obtain ⟨v2_3, g2_3, l2_3, f2_3⟩ := cell_shp HB2.out.2.2.2 HBK.out x2_3
   have HZ2_3 : Hid (isSl v2_3 = false) := l2_3.2 y2_3
   clear y2_3 l2_3
   have HR2_3 : Hid (Rel lo hi w (w2.setCell ⟨b, o + i * 3 + 2, none⟩ (.string s2))) := by
    obtain ⟨v9, g9, l9, f9⟩ := cell_shp HB2.out.2.2.2 HBK.out x2_3
    obtain ⟨_, _, y9⟩ := (HC.out i x HX.out).2.1
    exact HB2.out.set hl hh g9 (l9.2 (by obtain ⟨u9, x9, y9⟩ := (HC.out i x HX.out).2.1; rw [x2_3] at x9; cases x9; exact y9)) rfl
   go_wp2
   go_roundw
   case rel => exact ⟨i + 1, by omega, by go_num, by (rw [HSU.out]; unfold cn1Pe; have := HK2.out; have := HKK.out; go_num) , HR2_3.out⟩
   case measure => simp [intOf]; omega
  ·have h' : ¬ (i : Int) < (n : Int) := by omega
   obtain rfl : i = n := by omega
   have HE : Hid (cnkPe l i = cnPe l) := by show _ = _; unfold cnPe; rw [HN.out]
   rw [HE.out]
   go_wp2
   go_ret
   exact ⟨rfl, HRL.out⟩
def MNx (lo hi : Nat) (w : World) (a : Option Addr) (l : List Nx) : Prop := ∃ b o, a = some ⟨b, o, none⟩ ∧ lo ≤ b ∧ b < hi ∧ (∃ cs t, w.heap[b]? = some (.cells cs t (0, 0))) ∧ ∀ (i : Nat) (x : Nx), l[i]? = some x → (∃ v, w.cell? ⟨b, o + i * 2, none⟩ = some v ∧ isSl v = false) ∧ (∃ v, w.cell? ⟨b, o + i * 2 + 1, none⟩ = some v ∧ isSl v = false)
def cn1Nx (x : Nx) : Nat := 2
def cnkNx (l : List Nx) (k : Nat) : Nat := ((l.take k).map cn1Nx).sum
def cnNx (l : List Nx) : Nat := cnkNx l l.length
theorem cnkNx_succ {l : List Nx} {k : Nat} {x : Nx} (h : l[k]? = some x) : cnkNx l (k + 1) = cnkNx l k + cn1Nx x := by
 unfold cnkNx
 rw [List.take_add_one, h]
 simp
theorem cnkNx_le (l : List Nx) (k : Nat) : cnkNx l k ≤ cnNx l := by
 unfold cnNx cnkNx
 rw [List.take_length]
 have : ((l.take k).map cn1Nx).sum + ((l.drop k).map cn1Nx).sum = (l.map cn1Nx).sum := by rw [← List.sum_append_nat, ← List.map_append, List.take_append_drop]
 omega
theorem cnNx_len (l : List Nx) : l.length ≤ cnNx l := by
 unfold cnNx cnkNx
 rw [List.take_length]
 induction l with
 | nil => simp
 | cons y l ih =>
  rw [List.map_cons, List.sum_cons, List.length_cons]
  have : 1 ≤ cn1Nx y := by unfold cn1Nx; omega
  omega
theorem cnNx_le (l : List Nx) : cnNx l ≤ 8 * wtNx l := by
 have h1 : ∀ x : Nx, cn1Nx x ≤ 8 * (1 + wt1Nx x) := fun x => by unfold cn1Nx wt1Nx;  omega
 unfold cnNx cnkNx wtNx wtkNx
 rw [List.take_length]
 induction l with
 | nil => simp
 | cons y l ih =>
  rw [List.map_cons, List.map_cons, List.sum_cons, List.sum_cons, List.length_cons]
  have := h1 y
  omega
theorem MNx.shp {lo hi : Nat} {w w' : World} {a : Option Addr} {l : List Nx} (h : MNx lo hi w a l) (k : Shp w w') : MNx lo hi w' a l := by
 obtain ⟨b, o, e, hA, hA2, hB, hX⟩ := h
 refine ⟨b, o, e, hA, hA2, blk_shp k hB, fun i x hx => ?_⟩
 obtain ⟨h0, h1⟩ := hX i x hx
 exact ⟨(by obtain ⟨v, g1, g2⟩ := h0; obtain ⟨v', k1, k2, _⟩ := cell_shp k hB g1; exact ⟨v', k1, k2.2 g2⟩), (by obtain ⟨v, g1, g2⟩ := h1; obtain ⟨v', k1, k2, _⟩ := cell_shp k hB g1; exact ⟨v', k1, k2.2 g2⟩)⟩
theorem MNx.src {lo : Nat} {w : World} {a : Option Addr} {l : List Nx} (h : SrcNx (some lo) w a l) : MNx lo w.heap.size w a l := by
 rcases h with ⟨h, _⟩ | ⟨b, o, e, h1, h2⟩
 ·cases h
 ·obtain ⟨g1, cs, t, g2⟩ := h1 lo rfl
  refine ⟨b, o, e, g1, (Array.getElem?_eq_some_iff.1 g2).1, ⟨cs, t, g2⟩, fun i x hx => ?_⟩
  obtain ⟨q0, q1⟩ := h2 i x hx
  exact ⟨⟨_, q0, rfl⟩, ⟨_, q1, rfl⟩⟩
theorem markNx_any (lo hi : Nat) (a : Option Addr) (c : Nat) (l : List Nx) (k0 : Nat) (w : World) (hM : MNx lo hi w a l) (h0 : 0 < k0) (hk : k0 + cnNx l ≤ 100000000) :
  Calls Tryz.prog 72 #[.slice a l.length c, .int .i64 (k0 : Int)] w fun e w' => e = .returned (.int .i64 ((k0 + cnNx l : Nat) : Int)) ∧ Rel lo hi w w' := by
 obtain ⟨b, o, rfl, hl, hh, hbk, hc⟩ := hM
 have HBK := Lib.hid hbk
 have HC := Lib.hid hc
 have HCL := Lib.hid (cnkNx_le l)
 have HKL : Hid (k0 + cnNx l ≤ 100000000) := hk
 clear hbk hc hk
 obtain ⟨n, hn⟩ : ∃ n, l.length = n := ⟨_, rfl⟩
 have HN : Hid (l.length = n) := hn
 have hn9 : n ≤ 100000000 := by have h1 := cnNx_len l; have h2 := HKL.out; omega
 rw [hn]
 clear hn
 go_enter Tryz.func72, Tryz.ntmps72
 go_wp2
 go_loopw [1, 5] (fun a x wr => ∃ (i : Nat), i ≤ n ∧ x = .int .i64 (i : Int) ∧ a = .int .i64 ((k0 + cnkNx l i : Nat) : Int) ∧ Rel lo hi w wr) (fun _ x _ => n - (intOf x).toNat)
 case atStart => exact ⟨0, Nat.zero_le _, rfl, by simp [cnkNx], Rel.refl _ _ _⟩
 case round =>
  obtain ⟨i, hi', rfl, rfl, hrl⟩ := hrel
  have HRL : Hid (Rel lo hi w wr) := hrl
  clear hrl
  by_cases h : i < n
  ·have h' : (i : Int) < (n : Int) := by omega
   have hi0 : (0 : Int) ≤ (i : Int) := by omega
   obtain ⟨x, hx⟩ : ∃ x, l[i]? = some x := ⟨_, List.getElem?_eq_getElem (by rw [HN.out]; exact h)⟩
   have HX : Hid (l[i]? = some x) := hx
   have HSU := Lib.hid (cnkNx_succ hx)
   obtain ⟨K0, hK0⟩ : ∃ K : Nat, k0 + cnkNx l i = K := ⟨_, rfl⟩
   have HKK : Hid (k0 + cnkNx l i = K0) := hK0
   have HCB : Hid (K0 + cn1Nx x ≤ 100000000) := by
    show _ ≤ _
    have h1 := HCL.out (i + 1)
    have h2 := HKL.out
    have h3 := HSU.out
    omega
   have hK0b : K0 ≤ 100000000 := by have := HCB.out; omega
   have hK0c : K0 + 2 ≤ 100000000 := by have h9 := HCB.out; unfold cn1Nx at h9; omega
   have hK0p : 0 < K0 := by omega
   rw [hK0]
   clear hK0 hx
   have HM0 : Hid (∀ W, Calls Tryz.prog 62 #[.int .i64 ((K0 : Int))] W fun e w' => e = .returned (.string (sr.mark (K0 + 0))) ∧ Below W.heap.size W w') := fun W => by
    have := sr.mark_any (K0 + 0) (by omega) (by omega) W
    rwa [show ((K0 + 0 : Nat) : Int) = (K0 : Int) by omega] at this
   generalize sr.mark (K0 + 0) = s0 at *
   go_wp2_with (go_at_call 62; refine (HM0.out _).mono ?_; rintro e w0 ⟨rfl, hb0⟩; refine Hid.out ?_)
   refine Lib.hid ?_
   have HB0 : Hid (Rel lo hi w w0) := HRL.out.below hb0
   clear hb0 HM0 
   obtain ⟨u0_1, x0_1, y0_1⟩ := (HC.out i x HX.out).1
   obtain ⟨v0_1, g0_1, l0_1, f0_1⟩ := cell_shp HB0.out.2.2.2 HBK.out x0_1
   have HZ0_1 : Hid (isSl v0_1 = false) := l0_1.2 y0_1
   clear y0_1 l0_1
   have HR0_1 : Hid (Rel lo hi w (w0.setCell ⟨b, o + i * 2, none⟩ (.string s0))) := by
    obtain ⟨v9, g9, l9, f9⟩ := cell_shp HB0.out.2.2.2 HBK.out x0_1
    obtain ⟨_, _, y9⟩ := (HC.out i x HX.out).1
    exact HB0.out.set hl hh g9 (l9.2 (by obtain ⟨u9, x9, y9⟩ := (HC.out i x HX.out).1; rw [x0_1] at x9; cases x9; exact y9)) rfl
   have HM1 : Hid (∀ W, Calls Tryz.prog 62 #[.int .i64 ((K0 : Int) + 1)] W fun e w' => e = .returned (.string (sr.mark (K0 + 1))) ∧ Below W.heap.size W w') := fun W => by
    have := sr.mark_any (K0 + 1) (by omega) (by omega) W
    rwa [show ((K0 + 1 : Nat) : Int) = (K0 : Int) + 1 by omega] at this
   generalize sr.mark (K0 + 1) = s1 at *
   go_wp2_with (go_at_call 62; refine (HM1.out _).mono ?_; rintro e w1 ⟨rfl, hb1⟩; refine Hid.out ?_)
   refine Lib.hid ?_
   have HB1 : Hid (Rel lo hi w w1) := HR0_1.out.below hb1
   clear hb1 HM1 g0_1 f0_1
   obtain ⟨u1_2, x1_2, y1_2⟩ := (HC.out i x HX.out).2
   obtain ⟨v1_2, g1_2, l1_2, f1_2⟩ := cell_shp HB1.out.2.2.2 HBK.out x1_2
   have HZ1_2 : Hid (isSl v1_2 = false) := l1_2.2 y1_2
   clear y1_2 l1_2
   have HR1_2 : Hid (Rel lo hi w (w1.setCell ⟨b, o + i * 2 + 1, none⟩ (.string s1))) := by
    obtain ⟨v9, g9, l9, f9⟩ := cell_shp HB1.out.2.2.2 HBK.out x1_2
    obtain ⟨_, _, y9⟩ := (HC.out i x HX.out).2
    exact HB1.out.set hl hh g9 (l9.2 (by obtain ⟨u9, x9, y9⟩ := (HC.out i x HX.out).2; rw [x1_2] at x9; cases x9; exact y9)) rfl
   go_wp2
   go_roundw
   case rel => exact ⟨i + 1, by omega, by go_num, by (rw [HSU.out]; unfold cn1Nx;  have := HKK.out; go_num) , HR1_2.out⟩
   case measure => simp [intOf]; omega
  ·have h' : ¬ (i : Int) < (n : Int) := by omega
   obtain rfl : i = n := by omega
   have HE : Hid (cnkNx l i = cnNx l) := by show _ = _; unfold cnNx; rw [HN.out]
   rw [HE.out]
   go_wp2
   go_ret
   exact ⟨rfl, HRL.out⟩
def cn1Wr (x : Wr) : Nat := 5 + cnEt x.fTree
def cnkWr (l : List Wr) (k : Nat) : Nat := ((l.take k).map cn1Wr).sum
def cnWr (l : List Wr) : Nat := cnkWr l l.length
theorem cnkWr_succ {l : List Wr} {k : Nat} {x : Wr} (h : l[k]? = some x) : cnkWr l (k + 1) = cnkWr l k + cn1Wr x := by
 unfold cnkWr
 rw [List.take_add_one, h]
 simp
theorem cnkWr_le (l : List Wr) (k : Nat) : cnkWr l k ≤ cnWr l := by
 unfold cnWr cnkWr
 rw [List.take_length]
 have : ((l.take k).map cn1Wr).sum + ((l.drop k).map cn1Wr).sum = (l.map cn1Wr).sum := by rw [← List.sum_append_nat, ← List.map_append, List.take_append_drop]
 omega
theorem cnWr_len (l : List Wr) : l.length ≤ cnWr l := by
 unfold cnWr cnkWr
 rw [List.take_length]
 induction l with
 | nil => simp
 | cons y l ih =>
  rw [List.map_cons, List.sum_cons, List.length_cons]
  have : 1 ≤ cn1Wr y := by unfold cn1Wr; omega
  omega
theorem cnWr_le (l : List Wr) : cnWr l ≤ 8 * wtWr l := by
 have h1 : ∀ x : Wr, cn1Wr x ≤ 8 * (1 + wt1Wr x) := fun x => by unfold cn1Wr wt1Wr; have := cnEt_le x.fTree; omega
 unfold cnWr cnkWr wtWr wtkWr
 rw [List.take_length]
 induction l with
 | nil => simp
 | cons y l ih =>
  rw [List.map_cons, List.map_cons, List.sum_cons, List.sum_cons, List.length_cons]
  have := h1 y
  omega
end Go.Proofs.YtpfnnjfapcnbnaaGreatDoor.ty
