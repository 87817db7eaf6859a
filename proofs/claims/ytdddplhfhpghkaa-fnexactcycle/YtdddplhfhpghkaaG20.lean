import Derived.Test.YtdddplhfhpghkaaG14
import Derived.Test.YtdddplhfhpghkaaG02
import Derived.Test.YtdddplhfhpghkaaG19
import Derived.Test.YtdddplhfhpghkaaG05
namespace Go.Proofs.Ytdddplhfhpghkaa.lw
open Go.ChangeShapes Go.WideShapes Go.ChangeAt Go.RowKit Go.Deep
set_option linter.unusedVariables false
set_option linter.unusedSimpArgs false

/-! ### For the laws' walks: answers that are rows of texts -/

def fma (xs : List (List UInt8)) : List ByteArray := xs.map fun x => ⟨x.toArray⟩
theorem fma_at {xs : List (List UInt8)} {i : Nat} {x : List UInt8} (h : xs[i]? = some x) : st.atS (fma xs) i = ⟨x.toArray⟩ := by
  have : (fma xs)[i]? = some ⟨x.toArray⟩ := by unfold fma; rw [List.getElem?_map, h]; rfl
  simp [st.atS, this]
theorem ss_row {w : World} {v : Value} {xs : List (List UInt8)} (h : sr.StrR w v xs) : ∃ a c, v = .slice a xs.length c ∧ st.Ss w a xs.length (fma xs) := by
  obtain ⟨bb, off, cap, rfl, _, _, hc⟩ := h
  refine ⟨_, cap, rfl, .inr ⟨bb, off, rfl, fun i hi => ?_⟩⟩
  have hx : xs[i]? = some xs[i] := List.getElem?_eq_getElem hi
  rw [fma_at hx]
  exact hc i _ hx
/-- A row of texts in a block of its own. -/
def GB (w : World) (g : Nat) (xs : List (List UInt8)) : Prop := ∃ cs : Array Value, w.heap[g]? = some (.cells cs 9 (0, 0)) ∧ ∀ (i : Nat) (x : List UInt8), xs[i]? = some x → cs[i]? = some (sr.strL x)
theorem GB.of {w w' : World} {g : Nat} {xs : List (List UInt8)} (h : GB w g xs) (e : w'.heap[g]? = w.heap[g]?) : GB w' g xs := by
  obtain ⟨cs, h1, h2⟩ := h
  exact ⟨cs, e.trans h1, h2⟩
theorem GB.lt {w : World} {g : Nat} {xs : List (List UInt8)} (h : GB w g xs) : g < w.heap.size := by
  obtain ⟨cs, h1, _⟩ := h
  exact (Array.getElem?_eq_some_iff.1 h1).1
theorem GB.below {w w' : World} {g : Nat} {xs : List (List UInt8)} (h : GB w g xs) (k : Below w.heap.size w w') : GB w' g xs := h.of (k.block g h.lt)
theorem GB.ss {w : World} {g : Nat} {xs : List (List UInt8)} (h : GB w g xs) : st.Ss w (some ⟨g, 0, none⟩) xs.length (fma xs) := by
  obtain ⟨cs, h1, h2⟩ := h
  refine .inr ⟨g, 0, rfl, fun i hi => ?_⟩
  have hx : xs[i]? = some xs[i] := List.getElem?_eq_getElem hi
  rw [fma_at hx, Nat.zero_add]
  simp only [World.cell?, h1]
  exact h2 i _ hx
theorem GB.mk {w : World} {g : Nat} {xs : List (List UInt8)} (h : GB w g xs) : sr.MkR w g 0 xs.length 1 0 := by
  obtain ⟨cs, h1, h2⟩ := h
  refine ⟨⟨cs, h1, ?_⟩, fun j hj => by omega⟩
  rw [Nat.zero_add]
  rcases Nat.eq_zero_or_pos xs.length with h0 | h0
  · omega
  · have hx : xs[xs.length - 1]? = some xs[xs.length - 1] := List.getElem?_eq_getElem (by omega)
    have := (Array.getElem?_eq_some_iff.1 (h2 _ _ hx)).1
    omega
theorem GB.own {w : World} {B : Nat} {v : Value} {xs : List (List UInt8)} (h : sr.OwnS B w v xs) : ∃ g c, v = .slice (some ⟨g, 0, none⟩) xs.length c ∧ B ≤ g ∧ GB w g xs := by
  obtain ⟨⟨hl, h'⟩, hv⟩ := h
  rcases h' with ⟨e, _⟩ | ⟨g, cap, cur, e, hb, hg, hc, hm, hz, ht⟩
  · exact absurd e hv
  · refine ⟨g, cap, e, hb, cur, hg, fun i x hx => ?_⟩
    have hi := (List.getElem?_eq_some_iff.1 hx).1
    have h1 : (cur.toList.take xs.length)[i]? = (xs.map sr.strL)[i]? := by first | rw [ht] | (rw [← ht]; simp)
    rw [List.getElem?_take_of_lt hi, List.getElem?_map, hx] at h1
    simpa using h1

end Go.Proofs.Ytdddplhfhpghkaa.lw

namespace Go.Proofs.Ytdddplhfhpghkaa.cy
open Go.ChangeShapes Go.WideShapes Go.ChangeAt Go.RowKit Go.Deep
set_option linter.unusedVariables false
set_option linter.unusedSimpArgs false

/-! ### FnExactCycle's walk -/

set_option maxHeartbeats 8000000 in
set_option maxRecDepth 100000 in
theorem cy_law (a0 : Option Addr) (c0 : Nat) (p0 : List ty.Un) (w : World)  (hb0 : ty.SrcUn none w a0 p0) (hs0 : ty.SmUn p0) :
    Calls Try.prog 3 #[.slice a0 p0.length c0] w fun e w' => e = .returned (.bool true) ∧ Below w.heap.size w w' := by
  have HSZ0 : Hid (∀ (W : World) (L : Int), Below w.heap.size w W → 0 ≤ L → L ≤ 1048576 → Calls Try.prog 6 #[.slice a0 p0.length c0, .int .i64 L] W fun e w' => (∃ r : Int, e = .returned (.int .i64 r) ∧ (r = -1 ∨ 0 ≤ r ∧ r = L - (ty.wtUn p0 : Int))) ∧ Below W.heap.size W w') := fun W L h h0 h1 => ty.szUn_any a0 c0 p0 L W (hb0.below h) hs0 ⟨h0, h1⟩
  have HTO0 : Hid (∀ W, Below w.heap.size w W → ty.wtUn p0 ≤ 1048576 → Calls Try.prog 8 #[.slice a0 p0.length c0] W fun e w' => e = .returned (.slice (some ⟨W.heap.size, 0, none⟩) p0.length p0.length) ∧ ty.SrcUn (some W.heap.size) w' (some ⟨W.heap.size, 0, none⟩) p0 ∧ Below W.heap.size W w') := fun W h hw => ty.toUn_any a0 c0 p0 W (hb0.below h) hw
  clear hb0 hs0
  obtain ⟨n0, hn0⟩ : ∃ n, p0.length = n := ⟨_, rfl⟩
  obtain ⟨rs, hrs⟩ : ∃ rs, cyA p0 = rs := ⟨_, rfl⟩
  have HRL : Hid (ty.wtUn p0 ≤ 1048576 → rs.length ≤ 1000000) := fun w0 => by rw [← hrs]; exact cyA_small p0
  have HSP : Hid (∀ (lo0 : Nat) (A0 : Option Addr) (C0 : Nat) W, ty.SrcUn (some lo0) W A0 p0 → ty.wtUn p0 ≤ 1048576 → C0 = n0 → Calls Try.prog 7 #[.slice A0 n0 C0] W fun e w' => (∃ v, e = .returned (v) ∧ sr.StrR w' v rs) ∧ Below W.heap.size W w') := fun lo0 A0 C0 W H0 w0 E0  => by
    rw [← hn0, ← hrs]
    exact ((scy_any A0 C0 p0 W H0.any w0).mono fun e w' h => by obtain ⟨⟨v, e1, h1⟩, h2⟩ := h; exact ⟨⟨v, e1, h1.row⟩, h2⟩)
  have HIP : Hid (∀ (lo0 : Nat) (A0 : Option Addr) (C0 : Nat) W, ty.SrcUn (some lo0) W A0 p0 → ty.wtUn p0 ≤ 1048576 → C0 = n0 → Calls Try.prog 9 #[.slice A0 n0 C0] W fun e w' => (∃ v, e = .returned (v) ∧ sr.OwnS W.heap.size w' v rs) ∧ Below W.heap.size W w') := fun lo0 A0 C0 W H0 w0 E0   => by
    rw [← hn0, ← hrs]
    exact (icy_any (some lo0) A0 C0 p0 W H0 w0)
  have HEQ0 : Hid (∀ (A A' : Option Addr) (c c' : Nat) W, ty.SrcUn none W A p0 → ty.SrcUn none W A' p0 → ty.wtUn p0 ≤ 1048576 → Calls Try.prog 11 #[.slice A n0 c, .slice A' n0 c'] W fun e w' => e = .returned (.bool true) ∧ Below W.heap.size W w') := fun A A' c c' W h h' hw => by rw [← hn0]; exact ty.eqUn_any A A' c c' p0 W h h' hw
  have HMK0 : Hid (∀ (lo hi : Nat) (A : Option Addr) (c k : Nat) W, ty.MUn lo hi W A p0 → 0 < k → k + ty.cnUn p0 ≤ 100000000 → Calls Try.prog 12 #[.slice A n0 c, .int .i64 (k : Int)] W fun e w' => e = .returned (.int .i64 ((k + ty.cnUn p0 : Nat) : Int)) ∧ ty.Rel lo hi W w') := fun lo hi A c k W hM h0 hk => by rw [← hn0]; exact ty.markUn_any lo hi A c p0 k W hM h0 hk
  have HCN0 : Hid (ty.wtUn p0 ≤ 1048576 → ty.cnUn p0 ≤ 8388608) := fun h => by have := ty.cnUn_le p0; omega
  rw [hn0] at HSZ0 HTO0 ⊢
  clear hn0 hrs
  obtain ⟨k0, hk0⟩ : ∃ k, ty.cnUn p0 = k := ⟨_, rfl⟩
  rw [hk0] at HMK0 HCN0
  clear hk0
  go_enter Try.func3, Try.ntmps3
  go_wp2_with (go_at_call 6; refine (HSZ0.out _ _ (Below.refl _ _) (by omega) (by omega)).mono ?_; rintro e u0 ⟨⟨r0, rfl, hr0⟩, hlu0⟩)
  · go_ret
    exact ⟨rfl, hlu0⟩
  have HW0 : Hid (ty.wtUn p0 ≤ 1048576) := by
    have h := hr0.resolve_left (by omega)
    show _ ≤ _
    omega
  have hrr0 : 0 ≤ r0 ∧ r0 ≤ 1048576 := by omega
  clear hr0
  have HRL1 : Hid (rs.length ≤ 1000000) := HRL.out HW0.out
  have HC0 : Hid (k0 ≤ 8388608) := HCN0.out HW0.out
  go_wp2_with (go_at_call 8; refine (HTO0.out _ (hlu0) HW0.out).mono ?_; rintro e wa0 ⟨rfl, ho, hl⟩; refine Hid.out ?_)
  refine Lib.hid ?_
  have B_wa0 : Below w.heap.size w wa0 := (hlu0).trans (hl.mono (hlu0).size)
  have HS0 : Hid (ty.SrcUn (some u0.heap.size) wa0 (some ⟨u0.heap.size, 0, none⟩) p0) := ho
  clear ho hl
  go_wp2_with (go_at_call 7; refine (HSP.out _ _ _ _ HS0.out HW0.out rfl ).mono ?_; rintro e w3 ⟨⟨v3, rfl, hv3⟩, hl3⟩; refine Hid.out ?_)
  refine Lib.hid ?_
  obtain ⟨a3, c3, hve3, hss3⟩ := lw.ss_row hv3
  subst hve3
  have HP : Hid (∀ W, Below w3.heap.size w3 W → st.Ss W a3 rs.length (lw.fma rs)) := fun W h => hss3.below h
  have B_w3 : Below w.heap.size w w3 := (B_wa0).trans (hl3.mono (B_wa0).size)
  clear hv3 hl3 hss3 HS0
  have C_w3 : Below w3.heap.size w3 w3 := Below.refl _ _
  go_wp2_with (go_at_call 8; refine (HTO0.out _ (B_w3) HW0.out).mono ?_; rintro e wx0 ⟨rfl, ho, hl⟩; refine Hid.out ?_)
  refine Lib.hid ?_
  have B_wx0 : Below w.heap.size w wx0 := (B_w3).trans (hl.mono (B_w3).size)
  have C_wx0 : Below w3.heap.size w3 wx0 := (C_w3).trans (hl.mono (C_w3).size)
  have hlo0 : w3.heap.size ≤ w3.heap.size ∧ w3.heap.size ≤ wx0.heap.size := ⟨Nat.le_refl _, hl.size⟩
  have HX0 : Hid (ty.SrcUn (some w3.heap.size) wx0 (some ⟨w3.heap.size, 0, none⟩) p0) := ho
  have HM0 : Hid (ty.MUn w3.heap.size wx0.heap.size wx0 (some ⟨w3.heap.size, 0, none⟩) p0) := ty.MUn.src ho
  clear ho hl
  go_wp2_with (go_at_call 9; refine (HIP.out _ _ _ _ HX0.out HW0.out rfl  ).mono ?_; rintro e w5 ⟨⟨v5, rfl, hv5⟩, hl5⟩; refine Hid.out ?_)
  refine Lib.hid ?_
  obtain ⟨g5, c5, hve5, hg5, hgb5⟩ := lw.GB.own hv5
  subst hve5
  have B_w5 : Below w.heap.size w w5 := (B_wx0).trans (hl5.mono (B_wx0).size)
  have C_w5 : Below w3.heap.size w3 w5 := (C_wx0).trans (hl5.mono (C_wx0).size)
  have HX0_w5 : Hid (ty.SrcUn (some w3.heap.size) w5 (some ⟨w3.heap.size, 0, none⟩) p0) := HX0.out.below hl5
  have HM0_w5 : Hid (ty.MUn w3.heap.size wx0.heap.size w5 (some ⟨w3.heap.size, 0, none⟩) p0) := HM0.out.shp (ty.Shp.below hl5)
  have HG : Hid (lw.GB w5 g5 rs) := hgb5
  have hgx0 : wx0.heap.size ≤ g5 := Nat.le_trans (Nat.le_refl _) hg5
  have hg3 : w3.heap.size ≤ g5 := by have := hlo0; omega
  have hgw : w.heap.size ≤ g5 := Nat.le_trans B_w3.size hg3
  clear hv5 hl5 hgb5
  go_wp2_with (go_at_call 10; refine (st.eq_any _ _ _ _ _ _ _ HG.out.ss (HP.out _ C_w5) (by have := HRL1.out; omega)).mono ?_; rintro e w6 ⟨rfl, qq, hqq⟩; have hl : Below w5.heap.size w5 w6 := (by rw [hqq]; exact Go.below_drewN (Below.refl _ _) qq); clear hqq; refine Hid.out ?_)
  refine Lib.hid ?_
  have B_w6 : Below w.heap.size w w6 := (B_w5).trans (hl.mono (B_w5).size)
  have C_w6 : Below w3.heap.size w3 w6 := (C_w5).trans (hl.mono (C_w5).size)
  have HX0_w6 : Hid (ty.SrcUn (some w3.heap.size) w6 (some ⟨w3.heap.size, 0, none⟩) p0) := HX0_w5.out.below hl
  have HM0_w6 : Hid (ty.MUn w3.heap.size wx0.heap.size w6 (some ⟨w3.heap.size, 0, none⟩) p0) := HM0_w5.out.shp (ty.Shp.below hl)
  have HG_w6 : Hid (lw.GB w6 g5 rs) := HG.out.below hl
  clear hl
  go_wp2_with (go_at_call 8; refine (HTO0.out _ (B_w6) HW0.out).mono ?_; rintro e wt0 ⟨rfl, ho, hl⟩; refine Hid.out ?_)
  refine Lib.hid ?_
  have B_wt0 : Below w.heap.size w wt0 := (B_w6).trans (hl.mono (B_w6).size)
  have C_wt0 : Below w3.heap.size w3 wt0 := (C_w6).trans (hl.mono (C_w6).size)
  have HX0_wt0 : Hid (ty.SrcUn (some w3.heap.size) wt0 (some ⟨w3.heap.size, 0, none⟩) p0) := HX0_w6.out.below hl
  have HM0_wt0 : Hid (ty.MUn w3.heap.size wx0.heap.size wt0 (some ⟨w3.heap.size, 0, none⟩) p0) := HM0_w6.out.shp (ty.Shp.below hl)
  have HG_wt0 : Hid (lw.GB wt0 g5 rs) := HG_w6.out.below hl
  have HY0 : Hid (ty.SrcUn none wt0 (some ⟨w6.heap.size, 0, none⟩) p0) := ho.any
  clear ho hl
  go_wp2_with (go_at_call 11; refine (HEQ0.out _ _ _ _ _ HX0_wt0.out.any HY0.out HW0.out).mono ?_; rintro e we0 ⟨rfl, hl⟩; refine Hid.out ?_)
  refine Lib.hid ?_
  have B_we0 : Below w.heap.size w we0 := (B_wt0).trans (hl.mono (B_wt0).size)
  have C_we0 : Below w3.heap.size w3 we0 := (C_wt0).trans (hl.mono (C_wt0).size)
  have HX0_we0 : Hid (ty.SrcUn (some w3.heap.size) we0 (some ⟨w3.heap.size, 0, none⟩) p0) := HX0_wt0.out.below hl
  have HM0_we0 : Hid (ty.MUn w3.heap.size wx0.heap.size we0 (some ⟨w3.heap.size, 0, none⟩) p0) := HM0_wt0.out.shp (ty.Shp.below hl)
  have HG_we0 : Hid (lw.GB we0 g5 rs) := HG_wt0.out.below hl
  clear hl HY0
  have HMC0 : Hid (∀ W, ty.MUn w3.heap.size wx0.heap.size W (some ⟨w3.heap.size, 0, none⟩) p0 → Calls Try.prog 12 #[.slice (some ⟨w3.heap.size, 0, none⟩) n0 n0, .int .i64 1] W fun e w' => e = .returned (.int .i64 ((1 + k0 : Nat) : Int)) ∧ ty.Rel w3.heap.size wx0.heap.size W w') := fun W h => by
    have := HMK0.out _ _ _ n0 1 W h (by omega) (by have := HC0.out; omega)
    exact this
  obtain ⟨K0, hK0⟩ : ∃ K : Nat, 1 + k0 = K := ⟨_, rfl⟩
  rw [hK0] at HMC0
  have hKb0 : 0 < K0 ∧ K0 ≤ 8388609 := by have := HC0.out; omega
  clear hK0
  go_wp2_with (go_at_call 12; refine (HMC0.out _ HM0_we0.out).mono ?_; rintro e wm0 ⟨rfl, hR⟩; refine Hid.out ?_)
  refine Lib.hid ?_
  have B_wm0 : Below w.heap.size w wm0 := (B_we0).trans (hR.toBelow (by have := hlo0; have := B_w3.size; omega) (B_we0).size)
  have C_wm0 : Below w3.heap.size w3 wm0 := (C_we0).trans (hR.toBelow hlo0.1 (C_we0).size)
  have HG_wm0 : Hid (lw.GB wm0 g5 rs) := HG_we0.out.of (hR.2.2.1 g5 HG_we0.out.lt (.inr hgx0))
  clear hR
  go_wp2_with (go_at_call 10; refine (st.eq_any _ _ _ _ _ _ _ HG_wm0.out.ss (HP.out _ C_wm0) (by have := HRL1.out; omega)).mono ?_; rintro e w9 ⟨rfl, qq, hqq⟩; have hl : Below wm0.heap.size wm0 w9 := (by rw [hqq]; exact Go.below_drewN (Below.refl _ _) qq); clear hqq; refine Hid.out ?_)
  refine Lib.hid ?_
  have B_w9 : Below w.heap.size w w9 := (B_wm0).trans (hl.mono (B_wm0).size)
  have C_w9 : Below w3.heap.size w3 w9 := (C_wm0).trans (hl.mono (C_wm0).size)
  have HG_w9 : Hid (lw.GB w9 g5 rs) := HG_wm0.out.below hl
  clear hl
  go_wp2_with (go_at_call 13; refine (sr.markS_any g5 0 rs.length c5 1 _ HG_w9.out.mk w3.heap.size hg3 (C_w9).size (by omega) (by have := HRL1.out; omega)).mono ?_; rintro e w10 ⟨rfl, hmk, hl⟩; refine Hid.out ?_)
  refine Lib.hid ?_
  have C_w10 : Below w3.heap.size w3 w10 := (C_w9).trans hl
  have B_w10 : Below w.heap.size w w10 := (B_w9).trans (hl.mono B_w3.size)
  have HK : Hid (sr.MkR w10 g5 0 rs.length 1 rs.length) := hmk
  obtain ⟨RL, hRL⟩ : ∃ t, rs.length = t := ⟨_, rfl⟩
  clear hmk hl HG_w9
  clear hRL RL
  go_wp2_with (go_at_call 14; refine (sr.heldS_any g5 0 rs.length c5 1 _ HK.out (by omega) (by have := HRL1.out; omega)).mono ?_; rintro e w11 ⟨rfl, hl⟩; refine Hid.out ?_)
  refine Lib.hid ?_
  have B_w11 : Below w.heap.size w w11 := (B_w10).trans (hl.mono (B_w10).size)
  have C_w11 : Below w3.heap.size w3 w11 := (C_w10).trans (hl.mono (C_w10).size)
  have HK_w11 : Hid (sr.MkR w11 g5 0 rs.length 1 rs.length) := HK.out.below hl
  clear hl
  go_wp2_with (go_at_call 8; refine (HTO0.out _ (B_w11) HW0.out).mono ?_; rintro e wc0 ⟨rfl, ho, hl⟩; refine Hid.out ?_)
  refine Lib.hid ?_
  have B_wc0 : Below w.heap.size w wc0 := (B_w11).trans (hl.mono (B_w11).size)
  have C_wc0 : Below w3.heap.size w3 wc0 := (C_w11).trans (hl.mono (C_w11).size)
  have HK_wc0 : Hid (sr.MkR wc0 g5 0 rs.length 1 rs.length) := HK_w11.out.below hl
  have HV0 : Hid (ty.SrcUn (some w11.heap.size) wc0 (some ⟨w11.heap.size, 0, none⟩) p0) := ho
  clear ho hl
  go_wp2_with (go_at_call 9; refine (HIP.out _ _ _ _ HV0.out HW0.out rfl  ).mono ?_; rintro e w13 ⟨⟨v13, rfl, hv13⟩, hl⟩; refine Hid.out ?_)
  refine Lib.hid ?_
  obtain ⟨a13, c13, hve13, hss13⟩ := lw.ss_row hv13.row
  subst hve13
  have B_w13 : Below w.heap.size w w13 := (B_wc0).trans (hl.mono (B_wc0).size)
  have C_w13 : Below w3.heap.size w3 w13 := (C_wc0).trans (hl.mono (C_wc0).size)
  have HK_w13 : Hid (sr.MkR w13 g5 0 rs.length 1 rs.length) := HK_wc0.out.below hl
  have HQ13 : Hid (st.Ss w13 a13 rs.length (lw.fma rs)) := hss13
  clear hv13 hl hss13 HV0
  go_wp2_with (go_at_call 10; refine (st.eq_any _ _ _ _ _ _ _ HQ13.out (HP.out _ C_w13) (by have := HRL1.out; omega)).mono ?_; rintro e w14 ⟨rfl, qq, hqq⟩; have hl : Below w13.heap.size w13 w14 := (by rw [hqq]; exact Go.below_drewN (Below.refl _ _) qq); clear hqq; refine Hid.out ?_)
  refine Lib.hid ?_
  have B_w14 : Below w.heap.size w w14 := (B_w13).trans (hl.mono (B_w13).size)
  have C_w14 : Below w3.heap.size w3 w14 := (C_w13).trans (hl.mono (C_w13).size)
  have HK_w14 : Hid (sr.MkR w14 g5 0 rs.length 1 rs.length) := HK_w13.out.below hl
  clear hl
  go_wp2_with (go_at_call 14; refine (sr.heldS_any g5 0 rs.length c5 1 _ HK_w14.out (by omega) (by have := HRL1.out; omega)).mono ?_; rintro e w15 ⟨rfl, hl⟩; refine Hid.out ?_)
  refine Lib.hid ?_
  have B_w15 : Below w.heap.size w w15 := (B_w14).trans (hl.mono (B_w14).size)
  have C_w15 : Below w3.heap.size w3 w15 := (C_w14).trans (hl.mono (C_w14).size)
  have HK_w15 : Hid (sr.MkR w15 g5 0 rs.length 1 rs.length) := HK_w14.out.below hl
  clear hl
  go_wp2
  go_ret
  exact ⟨rfl, B_w15⟩

end Go.Proofs.Ytdddplhfhpghkaa.cy
