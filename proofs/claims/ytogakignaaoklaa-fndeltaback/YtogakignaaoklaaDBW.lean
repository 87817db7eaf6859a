import Derived.Test.YtogakignaaoklaaDB4
import Derived.Test.YtogakignaaoklaaDH
import Derived.Test.YtogakignaaoklaaDR
import Derived.Test.YtogakignaaoklaaNT
namespace Go.Proofs.Ytogakignaaoklaa.dl
open Go.ChangeShapes Go.WideShapes Go.ChangeAt Go.RowKit Go.Deep
open bf (Bf Ap num)
open Go.Proofs.Ytogakignaaoklaa.dr (Draws below_can once_can)
set_option linter.unusedVariables false
set_option linter.unusedSimpArgs false

/-! ### FnDeltaBack: the law's walk -/

theorem rd_row {base : Nat} {W : World} {G cp : Nat} {zs : List Sz} (h : RowS base W (.slice (some ⟨G, 0, none⟩) zs.length cp) zs) : Rd W G 0 (xs zs) := fun i x hx => by
  obtain ⟨z, hz, rfl⟩ := xs_at hx
  rw [Nat.zero_add]
  exact ⟨z.a, z.c, h.cell (j := 0) hz (by omega), h.cell (j := 1) hz (by omega), h.cell (j := 2) hz (by omega), h.cell (j := 3) hz (by omega), srcd_kept fun hd => by
    obtain ⟨g, e, ho, _⟩ := h.dat i z hz hd
    exact ⟨g, e, ho.cells, rfl⟩⟩
theorem big_any (a : Option Addr) (n cap : Nat) (w : World) : Calls Try.prog 4 #[.slice a n cap] w fun e w' => e = .returned (.bool (decide (1048576 < (n : Int)))) ∧ w' = w := by
  go_enter Try.func4, Try.ntmps4
  go_wp2
  go_ret
  exact ⟨rfl, rfl⟩

set_option maxHeartbeats 16000000 in
set_option maxRecDepth 100000 in
theorem db_law (a : Option Addr) (n cap : Nat) (w : World) (hb : dr.CodeB w a n) (hlt : ∀ x, a = some x → 0 < n → x.block < w.heap.size) :
    Calls Try.prog 3 #[.slice a n cap] w fun e w' => e = .returned (.bool true) ∧ Below w.heap.size w w' := by
  by_cases hn : n ≤ 1048576
  rotate_left
  · have hn' : (1048576 : Int) < (n : Int) := by omega
    have hd' : decide (1048576 < (n : Int)) = true := by simpa using hn'
    go_enter Try.func3, Try.ntmps3
    go_wp2_with (go_at_call 4; refine (big_any _ _ _ _).mono ?_; rintro e w' ⟨rfl, hw⟩; have hw2 := hw.symm; subst hw2; clear hw; rw [hd'])
    go_ret
    exact ⟨rfl, Below.refl _ _⟩
  have hn' : ¬ (1048576 : Int) < (n : Int) := by omega
  have hd' : decide (1048576 < (n : Int)) = false := by simpa using hn'
  have HMD := Lib.hid (mdraw_any a n cap w hb hn hlt)
  have HRZ : Hid (∀ W, Below w.heap.size w W → Calls Try.prog 8 #[.slice a n cap] W fun e w' => (∃ g c l, e = .returned (.slice (some ⟨g, 0, none⟩) l.length c) ∧ l.length ≤ 1000000 ∧ RB w' g c l) ∧ Below W.heap.size W w') := fun W h => by
    refine rdraw_any a n cap W ?_ hn (fun x e h0 => Nat.lt_of_lt_of_le (hlt x e h0) h.size)
    rcases hb with h1 | ⟨b, off, rfl, h1⟩
    · exact .inl h1
    · refine .inr ⟨b, off, rfl, fun i hi => ?_⟩
      obtain ⟨x, hx, hc⟩ := h1 i hi
      exact ⟨x, hx, (h.cell (p := ⟨b, off + i, none⟩) (World.block_lt_of_cell? _ _ hc)).trans hc⟩
  clear hb hlt
  go_enter Try.func3, Try.ntmps3
  go_wp2_with (go_at_call 4; refine (big_any _ _ _ _).mono ?_; rintro e w' ⟨rfl, hw⟩; have hw2 := hw.symm; subst hw2; clear hw; rw [hd'])
  go_wp2_with (go_at_call 5; refine HMD.out.mono ?_; rintro e w1 ⟨⟨og, oc, old, fg, fc, fresh, rfl, hol, hfl, hro, hrf⟩, hb1⟩; refine Hid.out ?_)
  refine Lib.hid ?_
  have HB1 : Hid (Below w.heap.size w w1) := hb1
  have HRO : Hid (∀ W, Below w1.heap.size w1 W → RB W og oc old ∧ RB W fg fc fresh) := fun W h => ⟨hro.below h, hrf.below h⟩
  obtain ⟨X, hX⟩ : ∃ X, mkB' old fresh = X := ⟨_, rfl⟩
  have HXE : Hid (mkB' old fresh = X) := hX
  have HXW : Hid (wt X ≤ 6000) := by show _ ≤ _; rw [← hX]; exact wt_mkB old fresh
  have HXI : Hid (∀ x ∈ X, I64 x.p ∧ I64 x.n) := by show ∀ x ∈ X, _; rw [← hX]; exact mk_i64 old fresh
  have HXG : Hid (good X = true) := by show _ = _; rw [← hX]; exact mk_good
  have HMK := Lib.hid (imk_any (oc := oc) (nc := fc) og fg old.length fresh.length old fresh rfl rfl (by omega) (by omega) w1 hro.cells hrf.cells hro.lt hrf.lt hro.le hrf.le)
  rw [hX] at HMK
  have HSM : Hid (∀ W, Below w1.heap.size w1 W → Calls Try.prog 11 #[.slice (some ⟨og, 0, none⟩) old.length oc, .slice (some ⟨fg, 0, none⟩) fresh.length fc] W fun e w' => MkN W w' X e) := fun W h => by
    have := smk_any (oc := oc) (nc := fc) og fg old.length fresh.length old fresh rfl rfl (by omega) (by omega) W (HRO.out W h).1.cells (HRO.out W h).2.cells (HRO.out W h).1.lt (HRO.out W h).2.lt
    rw [hX] at this
    exact this
  have HSV : Hid (∀ W, Below w1.heap.size w1 W → Calls Try.prog 13 #[.slice (some ⟨og, 0, none⟩) old.length oc, .slice (some ⟨fg, 0, none⟩) fresh.length fc] W fun e w' => e = .returned (.int .i64 (svV X fresh.length)) ∧ Below W.heap.size W w') := fun W h => by
    have := isv_any (oc := oc) (nc := fc) og fg old.length fresh.length old fresh rfl rfl (by omega) (by omega) W (HRO.out W h).1.cells (HRO.out W h).2.cells (HRO.out W h).1.lt (HRO.out W h).2.lt hro.le hrf.le
    rw [hX] at this
    exact this
  have HAP : Hid (∀ (W : World) (G cp : Nat), Below w1.heap.size w1 W → Rd W G 0 X → Calls Try.prog 7 #[.slice (some ⟨og, 0, none⟩) old.length oc, .slice (some ⟨G, 0, none⟩) X.length cp] W fun e w' => Ans W w' (adB old X) (adOk old X) e ∧ Below W.heap.size W w') := fun W G cp h h1 =>
    iad_any (oc := oc) og G 0 cp old X W (HRO.out W h).1.cells (HRO.out W h).1.lt h1 (by have := HXW.out; omega) HXI.out old.length rfl (by omega) hro.le
  have HFZ : Hid (fresh.length ≤ 4000 ∧ old.length ≤ 300) := ⟨hfl, hol⟩
  clear hb1 hro hrf hX HMD hn hn' hd'
  go_wp2_with (go_at_call 6; refine HMK.out.mono ?_; rintro e w2 ⟨v2, zs, base, rfl, hxs, hbs, hrow, hb2⟩; refine Hid.out ?_)
  refine Lib.hid ?_
  obtain ⟨G, cp, hv2, _⟩ := hrow.shape
  subst hv2
  obtain ⟨m, hm⟩ : ∃ m, X.length = m := ⟨_, rfl⟩
  have HM : Hid (X.length = m) := hm
  obtain hzm : zs.length = m := by rw [← hm, ← hxs, xs_len]
  have HRD2 := Lib.hid (rd_row hrow)
  rw [hxs] at HRD2
  have HDS : Hid (∀ W, Below w2.heap.size w2 W → Rd W G 0 X) := fun W h => HRD2.out.below h
  have HB12 : Hid (Below w1.heap.size w1 w2) := hb2
  have HBW2 : Hid (Below w.heap.size w w2) := HB1.out.trans (hb2.mono HB1.out.size)
  rw [hzm]
  clear hrow hb2 hxs hbs hzm HRD2 HMK hm
  have HA0 : Hid (Calls Try.prog 7 #[.slice (some ⟨w2.heap.size, 0, none⟩) 0 0, .slice (some ⟨w2.heap.size + 1, 0, none⟩) 0 0] ((w2.alloc (.cells #[] 5)).alloc (.cells #[] 41)) fun e w' => (∃ g c, e = .returned (.tuple #[.slice (some ⟨g, 0, none⟩) 0 c, .bool true])) ∧ Below w2.heap.size w2 w') := by
    have hbb : Below w2.heap.size w2 ((w2.alloc (.cells #[] 5)).alloc (.cells #[] 41)) := ((Below.refl _ _).alloc (Nat.le_refl _) _).alloc (by simp) _
    refine (iad_any (oc := 0) w2.heap.size (w2.heap.size + 1) 0 0 [] [] _ (fun j hj => by simp at hj) (by simp; omega) (fun i x hx => by simp at hx) (by simp [wt, wtS]) (fun x hx => by simp at hx) 0 rfl (by omega) (Nat.le_refl _)).mono ?_
    rintro e w' ⟨⟨g, c, z, rfl, hz, _⟩, hb'⟩
    rw [ad_nil.1]
    rw [ad_nil.2] at hz
    obtain rfl : z = 0 := hz
    exact ⟨⟨g, c, rfl⟩, hbb.trans (hb'.mono hbb.size)⟩
  go_wp2_with (go_at_call 7; refine HA0.out.mono ?_; rintro e w3 ⟨⟨g3, c3, rfl⟩, hb3⟩; refine Hid.out ?_)
  refine Lib.hid ?_
  have HB13 : Hid (Below w1.heap.size w1 w3) := HB12.out.trans (hb3.mono HB12.out.size)
  have HB23 : Hid (Below w2.heap.size w2 w3) := hb3
  have HBW3 : Hid (Below w.heap.size w w3) := HBW2.out.trans (hb3.mono HBW2.out.size)
  clear hb3 HA0
  go_wp2_with (go_at_call 8; refine (HRZ.out _ HBW3.out).mono ?_; rintro e w4 ⟨⟨zg, zc, zl, rfl, hzl, hrz⟩, hb4⟩; refine Hid.out ?_)
  refine Lib.hid ?_
  have HZ : Hid (∀ W, Below w4.heap.size w4 W → RB W zg zc zl) := fun W h => hrz.below h
  have HB14 : Hid (Below w1.heap.size w1 w4) := HB13.out.trans (hb4.mono HB13.out.size)
  have HB24 : Hid (Below w2.heap.size w2 w4) := HB23.out.trans (hb4.mono HB23.out.size)
  have HBW4 : Hid (Below w.heap.size w w4) := HBW3.out.trans (hb4.mono HBW3.out.size)
  clear hrz hb4
  have HIR := Lib.hid (ird_any (C := zc) zg zl.length zl rfl (by omega) w4 (HZ.out _ (Below.refl _ _)).cells (HZ.out _ (Below.refl _ _)).lt (HZ.out _ (Below.refl _ _)).le (HZ.out _ (Below.refl _ _)).max)
  go_wp2_with (go_at_call 9; refine HIR.out.mono ?_; rintro e w5 ⟨⟨v5, ok5, es, bs5, rfl, hbs5, hr5, hw5, hc5⟩, hb5⟩; refine Hid.out ?_)
  refine Lib.hid ?_
  have HB45 : Hid (Below w4.heap.size w4 w5) := hb5
  have HR5 : Hid (RowS bs5 w5 v5 es ∧ wt (xs es) ≤ 1048576) := ⟨hr5, hw5⟩
  have HC5 := Lib.hid hc5
  have HB15 : Hid (Below w1.heap.size w1 w5) := HB14.out.trans (hb5.mono HB14.out.size)
  have HB25 : Hid (Below w2.heap.size w2 w5) := HB24.out.trans (hb5.mono HB24.out.size)
  have HBW5 : Hid (Below w.heap.size w w5) := HBW4.out.trans (hb5.mono HBW4.out.size)
  have HSR := Lib.hid (srd_any (C := zc) zg zl.length zl rfl (by omega) w5 (HZ.out _ HB45.out).cells (HZ.out _ HB45.out).lt (HZ.out _ HB45.out).le (HZ.out _ HB45.out).max)
  clear hb5 hr5 hw5 hc5 hbs5 HIR
  go_wp2_with (go_at_call 10; refine HSR.out.mono ?_; rintro e w6 ⟨⟨v6, ok6, es6, bs6, rfl, hbs6, hr6, hw6, hc6⟩, hb6⟩; refine Hid.out ?_)
  refine Lib.hid ?_
  have hok : ok6 = ok5 := by
    rcases HC5.out with ⟨e1, k1, _⟩ | ⟨e1, _, k1⟩ <;> rcases hc6 with ⟨e2, k2, _⟩ | ⟨e2, _, k2⟩
    · rw [e1, e2]
    · exact absurd k1 (k2 _)
    · exact absurd k2 (k1 _)
    · rw [e1, e2]
  subst hok
  have HB46 : Hid (Below w4.heap.size w4 w6) := HB45.out.trans (hb6.mono HB45.out.size)
  have HB56 : Hid (Below w5.heap.size w5 w6) := hb6
  have HB16 : Hid (Below w1.heap.size w1 w6) := HB15.out.trans (hb6.mono HB15.out.size)
  have HB26 : Hid (Below w2.heap.size w2 w6) := HB25.out.trans (hb6.mono HB25.out.size)
  have HBW6 : Hid (Below w.heap.size w w6) := HBW5.out.trans (hb6.mono HBW5.out.size)
  clear hb6 hr6 hw6 hc6 hbs6 HSR
  go_upto_region 11 with fail
  go_cut [68] from 55 to 68 (fun v wx => v = .bool false ∧ Below w6.heap.size w6 wx)
  case first =>
    have HS7 := Lib.hid (HSM.out w6 HB16.out)
    cases ok6
    all_goals
      go_wp2_with (go_at_call 11; refine HS7.out.mono ?_; rintro e w7 ⟨v7, zs7, bs7, rfl, hx7, _, hr7, _, hb7⟩; obtain ⟨G7, c7, hv7, _⟩ := hr7.shape; subst hv7; obtain hz7 : zs7.length = m := (by rw [← HM.out, ← hx7, xs_len]); rw [hz7]; clear hz7 hr7 hx7)
      go_meet
      exact ⟨by simp, hb7⟩
  case rest =>
    obtain ⟨rfl, hb7⟩ := hcut
    have HB47 : Hid (Below w4.heap.size w4 wc) := HB46.out.trans (hb7.mono HB46.out.size)
    have HB57 : Hid (Below w5.heap.size w5 wc) := HB56.out.trans (hb7.mono HB56.out.size)
    have HB17 : Hid (Below w1.heap.size w1 wc) := HB16.out.trans (hb7.mono HB16.out.size)
    have HB27 : Hid (Below w2.heap.size w2 wc) := HB26.out.trans (hb7.mono HB26.out.size)
    have HBW7 : Hid (Below w.heap.size w wc) := HBW6.out.trans (hb7.mono HBW6.out.size)
    clear hb7 HB16 HB26 HBW6 HB46 HB56
    obtain ⟨w7, hw7⟩ : ∃ q : World, q = wc := ⟨_, rfl⟩
    subst hw7
    have HSS : Hid (∀ W, Below w4.heap.size w4 W → (convert 22 9 (.slice (some ⟨zg, 0, none⟩) zl.length zc)).run Try.prog W = .ok (.string ⟨zl.toArray⟩) W) := fun W h => conv_by zc (HZ.out W h).cells
    go_upto_region 13 with fail
    go_cut [77] from 69 to 77 (fun v wx => v = .bool false ∧ Below w7.heap.size w7 wx)
    case first =>
      have B0 : Below w7.heap.size w7 w7.drew := (Below.refl _ _).drew
      have HT0 := Lib.hid (HSS.out _ (HB47.out.trans (B0.mono HB47.out.size)))
      cases ok6
      · refine wq 9 (S := fun _ => True) (by kernel_rfl) trivial fun hHeld => ?_
        refine uq (i := 0) rfl ?_
        try simp only [aP]
        refine uq (i := 1) rfl ?_
        try simp only [aP]
        refine sq (i := 2) rfl ?_
        try simp only [aP]
        refine sq (i := 3) rfl ?_
        try simp only [aP]
        refine sq (i := 4) rfl ?_
        try simp only [aP]
        refine sq (i := 5) rfl ?_
        try simp only [aP]
        refine sq (i := 6) rfl ?_
        try simp only [aP]
        refine sq (i := 7) rfl ?_
        try simp only [aP]
        refine uq (i := 8) rfl ?_
        try simp only [aP]
        refine dq ?_
        go_wp2
        go_meet
        exact ⟨rfl, B0⟩
      · obtain ⟨hgd, hx5⟩ : GoodD zl (xs es) ∧ True := by
          rcases HC5.out with ⟨_, k1, _⟩ | ⟨e1, _⟩
          · exact ⟨k1, trivial⟩
          · cases e1
        obtain ⟨G5, c5, hv5, _⟩ := HR5.out.1.shape
        subst hv5
        have HDB : Hid (∀ W, Below w5.heap.size w5 W → Calls Try.prog 12 #[.slice (some ⟨G5, 0, none⟩) es.length c5] W fun e w' => (∃ g c z, e = .returned (.slice (some ⟨g, 0, none⟩) z c) ∧ Bys W w' zl g c z) ∧ Below W.heap.size W w') := fun W h => by
          have := idb_any G5 0 c5 (xs es) W ((rd_row HR5.out.1).below h) HR5.out.2
          rw [hgd.2, xs_len] at this
          exact this
        have HD7 := Lib.hid (HDB.out w7.drew (HB57.out.trans (B0.mono HB57.out.size)))
        have HW7 := Lib.hid (HB47.out.trans (B0.mono HB47.out.size))
        clear hgd hx5 HDB
        refine wq 9 (S := fun W => (convert 22 9 (.slice (some ⟨zg, 0, none⟩) zl.length zc)).run Try.prog W = .ok (.string ⟨zl.toArray⟩) W) (by kernel_rfl) HT0.out fun hHeld => ?_
        refine uq (i := 0) rfl ?_
        try simp only [aP]
        refine uq (i := 1) rfl ?_
        try simp only [aP]
        refine uq (i := 2) rfl ?_
        try simp only [aP]
        refine uq (i := 5) rfl ?_
        try simp only [aP]
        refine uq (i := 6) rfl ?_
        try simp only [aP]
        refine rq 3 rfl fun K hK => ?_
        go_simp
        (go_at_call 12; refine HD7.out.mono ?_; rintro e w8 ⟨⟨g8, c8, z8, rfl, hz8, hbf8⟩, hb8⟩; have HZ8 : Hid (z8 = zl.length) := hz8; clear hz8)
        try go_wp2_with fail
        have hcv8 : (convert 22 9 (.slice (some ⟨g8, 0, none⟩) z8 c8)).run Try.prog w8 = .ok (.string ⟨zl.toArray⟩) w8 := by rw [HZ8.out]; exact conv_by c8 hbf8.cells
        have HT8 := Lib.hid (HSS.out _ (HW7.out.trans (hb8.mono HW7.out.size)))
        have HB8 := Lib.hid (B0.trans (hb8.mono B0.size))
        refine hK.out _ _ HT8.out (fun hHeld => ?_)
        clear hK K hbf8 hb8
        try simp only [aP]
        refine rq 4 rfl fun K hK => ?_
        go_simp
        try go_wp2_with fail
        refine hK.out _ _ HT8.out (fun hHeld => ?_)
        clear hK K hcv8
        try simp only [aP]
        refine uq (i := 7) rfl ?_
        try simp only [aP]
        refine uq (i := 8) rfl ?_
        try simp only [aP]
        refine dq ?_
        go_wp2
        go_meet
        exact ⟨by simp, HB8.out⟩
    case rest =>
      obtain ⟨rfl, hb8⟩ := hcut
      obtain ⟨w8, hw8⟩ : ∃ q : World, q = wc := ⟨_, rfl⟩
      subst hw8
      have HB18 : Hid (Below w1.heap.size w1 w8) := HB17.out.trans (hb8.mono HB17.out.size)
      have HB28 : Hid (Below w2.heap.size w2 w8) := HB27.out.trans (hb8.mono HB27.out.size)
      have HBW8 : Hid (Below w.heap.size w w8) := HBW7.out.trans (hb8.mono HBW7.out.size)
      clear hb8 HB17 HB27 HBW7 HB47 HB57 HSS HC5 HR5
      by_cases hm0 : m = 0
      · have hX0 : X = [] := List.length_eq_zero_iff.1 (HM.out.trans hm0)
        have HN := mk_none (HXE.out.trans hX0)
        subst hm0
        rcases HN with h | h | h
        · subst h
          go_wp2
          go_ret
          exact ⟨rfl, HBW8.out⟩
        · have h1 : (3000 : Int) < (fresh.length : Int) := by omega
          have h2 : ¬ (fresh.length : Int) = 0 := by omega
          go_wp2
          all_goals
            go_ret
            exact ⟨by first | rfl | simp, HBW8.out⟩
        · have := HFZ.out.2
          omega
      · have hm0' : ¬ (m : Int) = 0 := by omega
        have hXne : X ≠ [] := fun e => hm0 (by rw [← HM.out, e]; rfl)
        obtain ⟨h31, h32⟩ := mk_small (old := old) (fresh := fresh) (by rw [HXE.out]; exact hXne)
        have HMB := mk_back h31 h32
        rw [HXE.out] at HMB
        have HAD : Hid (∀ (W : World) (G cp : Nat), Below w1.heap.size w1 W → Rd W G 0 X → Calls Try.prog 7 #[.slice (some ⟨og, 0, none⟩) old.length oc, .slice (some ⟨G, 0, none⟩) m cp] W fun e w' => (∃ g c z, e = .returned (.tuple #[.slice (some ⟨g, 0, none⟩) z c, .bool true]) ∧ Bys W w' fresh g c z) ∧ Below W.heap.size W w') := fun W G cp h h1 => by
          have := HAP.out W G cp h h1
          rw [HMB.1, HMB.2.1, HM.out] at this
          exact this
        have HSVV : Hid (svV X fresh.length = (fresh.length : Int) - ((dbB X).length : Int)) := by show _ = _; unfold svV; rw [if_neg (fun h => hXne h.1)]
        have HDL : Hid ((dbB X).length ≤ 900004) := dbB_wt (by have := HXW.out; omega)
        have HCF : Hid (∀ W, Below w1.heap.size w1 W → (convert 22 9 (.slice (some ⟨fg, 0, none⟩) fresh.length fc)).run Try.prog W = .ok (.string ⟨fresh.toArray⟩) W) := fun W h => conv_by fc (HRO.out W h).2.cells
        have hm6 : m ≤ 6000 := by have := wt_len X; have := HXW.out; have := HM.out; omega
        clear hXne h31 h32 HMB HAP
        go_wp2_with (go_at_call 7; refine (HAD.out _ _ _ HB18.out (HDS.out _ HB28.out)).mono ?_; rintro e w9 ⟨⟨g9, c9, z9, rfl, hz9, hbf9⟩, hb9⟩; have HZ9 : Hid (z9 = fresh.length) := hz9; clear hz9; refine Hid.out ?_)
        refine Lib.hid ?_
        have HB19 : Hid (Below w1.heap.size w1 w9) := HB18.out.trans (hb9.mono HB18.out.size)
        have HB29 : Hid (Below w2.heap.size w2 w9) := HB28.out.trans (hb9.mono HB28.out.size)
        have HBW9 : Hid (Below w.heap.size w w9) := HBW8.out.trans (hb9.mono HBW8.out.size)
        have HR9 : Hid (∀ W, Below w9.heap.size w9 W → RB W g9 c9 fresh) := fun W h => (rb_of hbf9).below h
        have HDB : Hid (Calls Try.prog 12 #[.slice (some ⟨G, 0, none⟩) m cp] w9 fun e w' => (∃ g c z, e = .returned (.slice (some ⟨g, 0, none⟩) z c) ∧ Bys w9 w' (dbB X) g c z) ∧ Below w9.heap.size w9 w') := by
          have := idb_any G 0 cp X w9 (HDS.out _ HB29.out) (by have := HXW.out; omega)
          rw [HM.out] at this
          exact this
        clear hb9 hbf9 HB18 HB28 HBW8
        go_wp2_with (go_at_call 12; refine HDB.out.mono ?_; rintro e w10 ⟨⟨g10, c10, z10, rfl, hz10, hbf10⟩, hb10⟩; have HZ10 : Hid (z10 = (dbB X).length) := hz10; clear hz10; refine Hid.out ?_)
        refine Lib.hid ?_
        have HB110 : Hid (Below w1.heap.size w1 w10) := HB19.out.trans (hb10.mono HB19.out.size)
        have HB910 : Hid (Below w9.heap.size w9 w10) := hb10
        have HBW10 : Hid (Below w.heap.size w w10) := HBW9.out.trans (hb10.mono HBW9.out.size)
        have hz10l : z10 ≤ 900004 := by rw [HZ10.out]; exact HDL.out
        have hrb10 := rb_of hbf10
        have HIR := Lib.hid (ird_any (C := c10) g10 z10 (dbB X) HZ10.out (by have := HDL.out; omega) w10 hrb10.cells hrb10.lt (by rw [HZ10.out]; exact hrb10.le) hrb10.max)
        clear hb10 hbf10 HB19 HBW9 HDB hrb10 HB29
        go_wp2_with (go_at_call 9; refine HIR.out.mono ?_; rintro e w11 ⟨⟨v11, ok11, fs, bs11, rfl, hbs11, hr11, hw11, hc11⟩, hb11⟩; refine Hid.out ?_)
        refine Lib.hid ?_
        have hgX : GoodD (dbB X) X := ⟨HXG.out, rfl⟩
        obtain ⟨rfl, hxf⟩ : ok11 = true ∧ xs fs = X := by
          rcases hc11 with ⟨e1, _, k1⟩ | ⟨_, _, k1⟩
          · exact ⟨e1, k1 X hgX⟩
          · exact absurd hgX (k1 X)
        obtain ⟨G11, c11, hv11, _⟩ := hr11.shape
        subst hv11
        obtain hfm : fs.length = m := by rw [← HM.out, ← hxf, xs_len]
        have HRD11 := Lib.hid (rd_row hr11)
        rw [hxf] at HRD11
        have HB111 : Hid (Below w1.heap.size w1 w11) := HB110.out.trans (hb11.mono HB110.out.size)
        have HB911 : Hid (Below w9.heap.size w9 w11) := HB910.out.trans (hb11.mono HB910.out.size)
        have HBW11 : Hid (Below w.heap.size w w11) := HBW10.out.trans (hb11.mono HBW10.out.size)
        rw [hfm]
        clear hc11 hr11 hw11 hbs11 hxf hfm hgX hb11 HIR HB110 HB910 HBW10
        have hcf := HCF.out w11 HB111.out
        have hc9 : (convert 22 9 (.slice (some ⟨g9, 0, none⟩) z9 c9)).run Try.prog w11 = .ok (.string ⟨fresh.toArray⟩) w11 := by rw [HZ9.out]; exact conv_by c9 (HR9.out _ HB911.out).cells
        have HSV1 := Lib.hid (HSV.out w11 HB111.out)
        rw [HSVV.out, ← HZ10.out] at HSV1
        have hf4 := HFZ.out.1
        have hwz : IntKind.i64.wrap ((fresh.length : Int) - (z10 : Int)) = (fresh.length : Int) - (z10 : Int) := by rw [IntKind.wrap_i64]; omega
        go_wp2_with (go_at_call 13; refine HSV1.out.mono ?_; rintro e w12 ⟨rfl, hb12⟩; refine Hid.out ?_)
        refine Lib.hid ?_
        have HB112 : Hid (Below w1.heap.size w1 w12) := HB111.out.trans (hb12.mono HB111.out.size)
        have HBW12 : Hid (Below w.heap.size w w12) := HBW11.out.trans (hb12.mono HBW11.out.size)
        have HA13 := Lib.hid (HAD.out w12 G11 c11 HB112.out (HRD11.out.below hb12))
        clear hb12 hcf hc9 HSV1
        go_wp2_with (go_at_call 7; refine HA13.out.mono ?_; rintro e w13 ⟨⟨g13, c13, z13, rfl, hz13, hbf13⟩, hb13⟩; have HZ13 : Hid (z13 = fresh.length) := hz13; clear hz13; refine Hid.out ?_)
        refine Lib.hid ?_
        have hcf := HCF.out w13 (HB112.out.trans (hb13.mono HB112.out.size))
        have hc13 : (convert 22 9 (.slice (some ⟨g13, 0, none⟩) z13 c13)).run Try.prog w13 = .ok (.string ⟨fresh.toArray⟩) w13 := by rw [HZ13.out]; exact conv_by c13 hbf13.cells
        have HBW13 : Hid (Below w.heap.size w w13) := HBW12.out.trans (hb13.mono HBW12.out.size)
        clear hbf13 hb13
        go_wp2
        go_ret
        exact ⟨by simp, HBW13.out⟩

end Go.Proofs.Ytogakignaaoklaa.dl
