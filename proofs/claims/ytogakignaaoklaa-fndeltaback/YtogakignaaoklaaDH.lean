import Derived.Test.YtogakignaaoklaaDJ
namespace Go.Proofs.Ytogakignaaoklaa.dl
open Go.ChangeShapes Go.WideShapes Go.ChangeAt Go.RowKit Go.Deep
open bf (Bf Ap num)
open up (Sr SnR StR read_any rtext_any)
set_option linter.unusedVariables false
set_option linter.unusedSimpArgs false
variable {C : Nat}

/-! ### spec.ReadDelta, on -/

/-- How much is left. -/
def lf (p N : Nat) (w : World) : Nat := match w.cell? ⟨p, 1, none⟩ with
  | some (.int _ i) => N - i.toNat
  | _ => 0
theorem lf_of {w : World} {p b N i : Nat} {bad : Bool} (h : Sr C w p b N i bad) : lf p N w = N - i := by
  unfold lf
  rw [h.c1]
  simp
theorem rown_kept {w w' : World} {g : Nat} (h : RowS g w (.slice (some ⟨g, 0, none⟩) 0 0) []) (hb : w'.heap[g]? = w.heap[g]?) : RowS g w' (.slice (some ⟨g, 0, none⟩) 0 0) [] := by
  refine ⟨⟨h.own.1, ?_⟩, h.shape, fun i z hz => by simp at hz, fun i j z z' k _ hz => by simp at hz⟩
  rcases h.own.2 with ⟨e, _⟩ | ⟨g', cap, cur, e, h1, h2, h3⟩
  · cases e
  · cases e
    exact .inr ⟨_, _, cur, rfl, h1, hb.trans h2, h3⟩

set_option maxRecDepth 100000 in
set_option maxHeartbeats 8000000 in
theorem srd_main (b N : Nat) (l : List UInt8) (hNl : N = l.length) (hN : l.length ≤ 1048576) (w : World) (hB : up.By w b l) (hbw : b < w.heap.size) (hC : N ≤ C) (hCm : C ≤ 9223372036854775807) (h4 : ¬ N < 4) (hh : l.take 4 = [76, 68, 84, 49]) :
    Calls Try.prog 10 #[.slice (some ⟨b, 0, none⟩) N C] w fun e w' => RdR w w' l e ∧ Below w.heap.size w w' := by
  have h4' : ¬ (N : Int) < 4 := by omega
  have h4c : (4 : Int) ≤ (C : Int) := by omega
  have hN2 : N ≤ 1048576 := by omega
  obtain ⟨X4, hX4l, hcv4⟩ := head_conv (C := C) hNl h4 (hB.below ((Below.refl w.heap.size w).alloc (Nat.le_refl _) (.cells #[] 41)))
  have hne : (X4.toList == [76, 68, 84, 49]) = true := by rw [hX4l, beq_iff_eq]; exact hh
  have HNL : Hid (N = l.length) := hNl
  have HBY : Hid (∀ W, Below w.heap.size w W → up.By W b l) := fun W hW => hB.below hW
  have hbp : b ≠ w.heap.size + 1 := by omega
  have HBG : Hid (∀ W W', Below w.heap.size w W → W.grownBy W' (some (w.heap.size + 1)) → Below w.heap.size w W') := fun W W' h1 h2 => h1.grown h2 h1.size (fun k hk => by cases hk; omega)
  have HRD : Hid (∀ W (j : Nat) (bd : Bool), Below w.heap.size w W → Sr C W (w.heap.size + 1) b l.length j bd → Calls Try.prog 26 #[.pointer (some ⟨w.heap.size + 1, 0, none⟩)] W fun e w' => SnR C W w' (w.heap.size + 1) b l j bd e) := fun W j bd hW hS => read_any b (w.heap.size + 1) j bd l hbp hN W hS (HBY.out W hW)
  have HRT : Hid (∀ W (j : Nat) (bd : Bool), Below w.heap.size w W → Sr C W (w.heap.size + 1) b l.length j bd → Calls Try.prog 27 #[.pointer (some ⟨w.heap.size + 1, 0, none⟩)] W fun e w' => StR C W w' (w.heap.size + 1) b l j bd e) := fun W j bd hW hS => rtext_any b (w.heap.size + 1) j bd l hbp hN (by rw [← hNl]; exact hC) hCm W hS (HBY.out W hW)
  have HRN0 : Hid (RowS w.heap.size (w.alloc (.cells #[] 41)) (.slice (some ⟨w.heap.size, 0, none⟩) 0 0) []) := RowS.nil _ w (Nat.le_refl _)
  have HP0 : Hid (RdP l 4 []) := RdP.start (by omega)
  have HSR0 : Hid (∀ W : World, W.heap.size = w.heap.size + 1 → ∀ T, Sr C (W.alloc (.cells #[.slice (some ⟨b, 0, none⟩) N C, .int .i64 4, .bool false] T)) (w.heap.size + 1) b l.length 4 false) := fun W hW T => by rw [← hW, ← hNl]; exact sr_new W b N T (by omega)
  have HS1 : Hid ((w.alloc (.cells #[] 41)).heap.size = w.heap.size + 1) := World.size_alloc _ _
  clear hNl hB hX4l hh h4
  go_enter Try.func10, Try.ntmps10
  go_wp2_with fail
  obtain ⟨T, hT⟩ : ∃ T : TypeId, 60 = T := ⟨_, rfl⟩
  have HA1 : Hid (Below w.heap.size w (w.alloc (.cells #[] 41))) := (Below.refl _ _).alloc (Nat.le_refl _) _
  have HA2 : Hid (Below (w.alloc (.cells #[] 41)).heap.size (w.alloc (.cells #[] 41)) ((w.alloc (.cells #[] 41)).alloc (.cells #[.slice (some ⟨b, 0, none⟩) N C, .int .i64 4, .bool false] 60))) := (Below.refl _ _).alloc (Nat.le_refl _) _
  have HA3 : Hid (Below ((w.alloc (.cells #[] 41)).alloc (.cells #[.slice (some ⟨b, 0, none⟩) N C, .int .i64 4, .bool false] 60)).heap.size ((w.alloc (.cells #[] 41)).alloc (.cells #[.slice (some ⟨b, 0, none⟩) N C, .int .i64 4, .bool false] 60)) (((w.alloc (.cells #[] 41)).alloc (.cells #[.slice (some ⟨b, 0, none⟩) N C, .int .i64 4, .bool false] 60)).alloc (.cells #[] 41))) := (Below.refl _ _).alloc (Nat.le_refl _) _
  have HSZ2 : Hid (((w.alloc (.cells #[] 41)).alloc (.cells #[.slice (some ⟨b, 0, none⟩) N C, .int .i64 4, .bool false] 60)).heap.size = w.heap.size + 1 + 1) := by show _ = _; rw [World.size_alloc, World.size_alloc]
  have HS0 : Hid (RowS (w.heap.size + 2) (((w.alloc (.cells #[] 41)).alloc (.cells #[.slice (some ⟨b, 0, none⟩) N C, .int .i64 4, .bool false] 60)).alloc (.cells #[] 41)) (.slice (some ⟨w.heap.size + 1 + 1, 0, none⟩) 0 0) []) := by
    have := RowS.nil (w.heap.size + 2) ((w.alloc (.cells #[] 41)).alloc (.cells #[.slice (some ⟨b, 0, none⟩) N C, .int .i64 4, .bool false] 60)) (by rw [HSZ2.out]; omega)
    rwa [HSZ2.out] at this
  have HSRA : Hid (Sr C (((w.alloc (.cells #[] 41)).alloc (.cells #[.slice (some ⟨b, 0, none⟩) N C, .int .i64 4, .bool false] 60)).alloc (.cells #[] 41)) (w.heap.size + 1) b l.length 4 false) := Sr.below (HSR0.out _ HS1.out _) HA3.out
  have HRNA : Hid (RowS w.heap.size (((w.alloc (.cells #[] 41)).alloc (.cells #[.slice (some ⟨b, 0, none⟩) N C, .int .i64 4, .bool false] 60)).alloc (.cells #[] 41)) (.slice (some ⟨w.heap.size, 0, none⟩) 0 0) []) := (HRN0.out.below HA2.out).below HA3.out
  have HBEA : Hid (Below w.heap.size w (((w.alloc (.cells #[] 41)).alloc (.cells #[.slice (some ⟨b, 0, none⟩) N C, .int .i64 4, .bool false] 60)).alloc (.cells #[] 41))) := (HA1.out.trans (HA2.out.mono HA1.out.size)).trans (HA3.out.mono (Nat.le_trans HA1.out.size HA2.out.size))
  clear hcv4 hne hT
  go_loopw [6, 7] (fun v _ wr => ∃ (i : Nat) (zs : List Sz) (va : Option Addr) (vc : Nat) (bad : Bool), v = .slice va zs.length vc ∧ 4 ≤ i ∧ Sr C wr (w.heap.size + 1) b l.length i bad ∧ RowS (w.heap.size + 2) wr (.slice va zs.length vc) zs ∧ RdP l i (xs zs) ∧ zs.length ≤ 10000 ∧ (bad = true → ∀ ss, ¬ GoodD l ss) ∧ RowS w.heap.size wr (.slice (some ⟨w.heap.size, 0, none⟩) 0 0) [] ∧ Below w.heap.size w wr) (fun _ _ wr => lf (w.heap.size + 1) l.length wr)
  case atStart => exact ⟨4, [], _, _, false, rfl, Nat.le_refl _, HSRA.out, HS0.out, HP0.out, by simp, fun h => (by cases h), HRNA.out, HBEA.out⟩
  case round =>
    clear HS0 HSRA HRNA HBEA HA1 HA2 HA3 HSZ2 HS1 HSR0 HP0 HRN0
    obtain ⟨i, zs, va, vc, bad, rfl, hi4, hsr, hrow, hrdp, hlen, hnb, hrn, hbel⟩ := hrel
    have HSR : Hid (Sr C wr (w.heap.size + 1) b l.length i bad) := hsr
    have HRO : Hid (RowS (w.heap.size + 2) wr (.slice va zs.length vc) zs) := hrow
    have HRP : Hid (RdP l i (xs zs)) := hrdp
    have HNB : Hid (bad = true → ∀ ss, ¬ GoodD l ss) := hnb
    have HRN : Hid (RowS w.heap.size wr (.slice (some ⟨w.heap.size, 0, none⟩) 0 0) []) := hrn
    have HBE : Hid (Below w.heap.size w wr) := hbel
    have HLF : Hid (lf (w.heap.size + 1) l.length wr = l.length - i) := lf_of hsr
    have hpw : w.heap.size + 1 < wr.heap.size := World.block_lt_of_cell? _ _ hsr.c0
    obtain ⟨c0, c1, c2, fz, hle⟩ := hsr
    rw [← HNL.out] at c0
    have fz1 := fz 1
    obtain ⟨zl, hzl⟩ : ∃ n, zs.length = n := ⟨_, rfl⟩
    have HZL : Hid (zs.length = zl) := hzl
    rw [hzl] at hlen ⊢
    have hRO' := HRO.out
    rw [hzl] at hRO'
    have HROz : Hid (RowS (w.heap.size + 2) wr (.slice va zl vc) zs) := hRO'
    clear hrow hrdp hnb hrn hbel hzl hRO' HRO fz
    by_cases hi : i < N
    · have hi' : (i : Int) < (N : Int) := by omega
      have hi0 : (0 : Int) ≤ (i : Int) := by omega
      cases bad with
      | true =>
        have HNG : Hid (∀ ss, ¬ GoodD l ss) := HNB.out rfl
        go_wp2
        go_ret2
        exact ⟨rdR_none HRN.out HNG.out, HBE.out⟩
      | false =>
        have hil : i < l.length := by have := HNL.out; omega
        have HI : Hid (i < l.length) := hil
        obtain ⟨y, hy⟩ : ∃ y, y = l[i] := ⟨_, rfl⟩
        have HYE : Hid (∀ (h : i < l.length) v, l[i] = v → y = v) := fun h v e => hy.trans e
        have hcell : wr.cell? ⟨b, i, none⟩ = some (.int .u8 (y.toNat : Int)) := by rw [hy]; exact HBY.out wr HBE.out i hil
        have hyb : (y.toNat : Int) < 256 := by have := y.toNat_lt; omega
        obtain ⟨Y, hY⟩ : ∃ Y : Int, (y.toNat : Int) = Y := ⟨_, rfl⟩
        have HYY : Hid ((y.toNat : Int) = Y) := hY
        rw [hY] at hcell hyb
        have hY0 : 0 ≤ Y := by omega
        obtain ⟨W2, hW2⟩ : ∃ W2, (wr.setCell ⟨w.heap.size + 1, 1, none⟩ (.int .i64 ((i : Int) + 1))).alloc (.cells #[.int .i64 Y, .int .i64 0, .int .i64 0, .slice none 0 0] 41) = W2 := ⟨_, rfl⟩
        have HW2 : Hid ((wr.setCell ⟨w.heap.size + 1, 1, none⟩ (.int .i64 ((i : Int) + 1))).alloc (.cells #[.int .i64 Y, .int .i64 0, .int .i64 0, .slice none 0 0] 41) = W2) := hW2
        have hG2 : wr.grownBy W2 (some (w.heap.size + 1)) := by
          rw [← hW2]
          exact grown_bel (up.grown_set (up.grown_refl _ _) _ _) (box_below _ _ _)
        have HG2 : Hid (wr.grownBy W2 (some (w.heap.size + 1))) := hG2
        have HS2 : Hid (Sr C W2 (w.heap.size + 1) b l.length (i + 1) false) := by
          have := up.Sr.setI HSR.out (j := i + 1) (by omega)
          rw [show ((i + 1 : Nat) : Int) = (i : Int) + 1 by omega] at this
          have h9 := Sr.below this (box_below _ #[.int .i64 Y, .int .i64 0, .int .i64 0, .slice none 0 0] 41)
          rw [hW2] at h9
          exact h9
        have HX2 : Hid (Bx W2 wr.heap.size (.int .i64 Y) (.int .i64 0) (.int .i64 0) (.slice none 0 0)) := by
          have h9 := Bx.new (wr.setCell ⟨w.heap.size + 1, 1, none⟩ (.int .i64 ((i : Int) + 1))) (.int .i64 Y) (.int .i64 0) (.int .i64 0) (.slice none 0 0) 41
          rw [hW2, show (wr.setCell ⟨w.heap.size + 1, 1, none⟩ (.int .i64 ((i : Int) + 1))).heap.size = wr.heap.size by simp] at h9
          exact h9
        have HZ2 : Hid (W2.heap.size = wr.heap.size + 1) := by show _ = _; rw [← hW2]; simp
        have HB2 : Hid (Below w.heap.size w W2) := HBG.out _ _ HBE.out hG2
        clear hy hY hW2 hG2 hil
        by_cases h1 : Y = 1
        · subst h1
          obtain ⟨x0, x1, x2, x3, xf⟩ := HX2.out
          go_wp2_with (go_at_call 26; rw [HW2.out]; refine (HRD.out _ _ _ HB2.out HS2.out).mono ?_; rintro e w3 ⟨m1, i1, bd1, rfl, hm1, hi1, hs3, hb3, hg3, hp3⟩; have HP3 : Hid (∀ x tail, l.drop (i + 1) = bf.num x ++ tail → x ≤ 268435455 → m1 = x ∧ l.drop i1 = tail ∧ bd1 = false) := hp3; clear hp3 hb3; refine Hid.out ?_)
          refine Lib.hid ?_
          have hz3 : wr.heap.size < w3.heap.size := by have := hg3.size; have := HZ2.out; omega
          have HX3 : Hid (Bx w3 wr.heap.size (.int .i64 1) (.int .i64 0) (.int .i64 0) (.slice none 0 0)) := HX2.out.kept (hg3.block _ (by have := HZ2.out; omega) (fun e => by have := Option.some.inj e; omega))
          have HG3 : Hid (wr.grownBy w3 (some (w.heap.size + 1))) := HG2.out.trans hg3
          have HS3 : Hid (Sr C w3 (w.heap.size + 1) b l.length i1 bd1) := hs3
          clear hg3 hs3 x0 x1 x2 x3 xf
          obtain ⟨x0, x1, x2, x3, xf⟩ := HX3.out
          have xf1 := xf 1
          have HX4 : Hid (Bx (w3.setCell ⟨wr.heap.size, 1, none⟩ (.int .i64 (m1 : Int))) wr.heap.size (.int .i64 1) (.int .i64 (m1 : Int)) (.int .i64 0) (.slice none 0 0)) := HX3.out.set1
          have HG4 : Hid (wr.grownBy (w3.setCell ⟨wr.heap.size, 1, none⟩ (.int .i64 (m1 : Int))) (some (w.heap.size + 1))) := grown_new HG3.out (Nat.le_refl _)
          have HS4 : Hid (Sr C (w3.setCell ⟨wr.heap.size, 1, none⟩ (.int .i64 (m1 : Int))) (w.heap.size + 1) b l.length i1 bd1) := Sr.kept HS3.out (blk_oth (by omega))
          have HZ4 : Hid ((w3.setCell ⟨wr.heap.size, 1, none⟩ (.int .i64 (m1 : Int))).heap.size = w3.heap.size) := by show _ = _; simp
          have HB4 : Hid (Below w.heap.size w (w3.setCell ⟨wr.heap.size, 1, none⟩ (.int .i64 (m1 : Int)))) := HBG.out _ _ HBE.out HG4.out
          go_wp2_with (go_at_call 26; refine (HRD.out _ _ _ HB4.out HS4.out).mono ?_; rintro e w4 ⟨m2, i2, bad2, rfl, hm2, hi2, hs4, hb4, hg4, hp4⟩; have HP4 : Hid (∀ x tail, l.drop i1 = bf.num x ++ tail → x ≤ 268435455 → m2 = x ∧ l.drop i2 = tail ∧ bad2 = bd1) := hp4; clear hp4 hb4; refine Hid.out ?_)
          refine Lib.hid ?_
          have hz4 : wr.heap.size < w4.heap.size := by have := hg4.size; have := HZ4.out; omega
          have HX5 : Hid (Bx w4 wr.heap.size (.int .i64 1) (.int .i64 (m1 : Int)) (.int .i64 0) (.slice none 0 0)) := HX4.out.kept (hg4.block _ (by rw [HZ4.out]; exact hz3) (fun e => by have := Option.some.inj e; omega))
          have HG5 : Hid (wr.grownBy w4 (some (w.heap.size + 1))) := HG4.out.trans hg4
          have HS4' : Hid (Sr C w4 (w.heap.size + 1) b l.length i2 bad2) := hs4
          clear hg4 hs4 x0 x1 x2 x3 xf xf1
          obtain ⟨z, hz⟩ : ∃ z : Sz, z = ⟨⟨1, (m1 : Int), (m2 : Int), []⟩, none, 0⟩ := ⟨_, rfl⟩
          have hzE : szV z = [.int .i64 1, .int .i64 (m1 : Int), .int .i64 (m2 : Int), .slice none 0 0] := by rw [hz]; rfl
          obtain ⟨w5, hw5⟩ : ∃ w5, w4.setCell ⟨wr.heap.size, 2, none⟩ (.int .i64 (m2 : Int)) = w5 := ⟨_, rfl⟩
          have hX6 : Bx w5 wr.heap.size (.int .i64 1) (.int .i64 (m1 : Int)) (.int .i64 (m2 : Int)) (.slice none 0 0) := by rw [← hw5]; exact HX5.out.set2
          have hG6 : wr.grownBy w5 (some (w.heap.size + 1)) := by rw [← hw5]; exact grown_new HG5.out (Nat.le_refl _)
          have HSR5 : Hid (Sr C w5 (w.heap.size + 1) b l.length i2 bad2) := by show Sr _ _ _ _ _ _ _; rw [← hw5]; exact Sr.kept HS4'.out (blk_oth (by omega))
          have HB5 : Hid (Below w.heap.size w w5) := HBG.out _ _ HBE.out hG6
          have HS54 : Hid (w5.heap.size = w4.heap.size) := by show _ = _; rw [← hw5]; simp
          have HS5 : Hid (w.heap.size + 2 ≤ w5.heap.size) := by show _ ≤ _; have := hG6.size; omega
          have HRO5 : Hid (RowS (w.heap.size + 2) w5 (.slice va zl vc) zs) := HROz.out.kept hG6 (by omega)
          have HRN5 : Hid (RowS w.heap.size w5 (.slice (some ⟨w.heap.size, 0, none⟩) 0 0) []) := rown_kept HRN.out (hG6.block _ (by omega) (fun e => by have := Option.some.inj e; omega))
          have HD5 : Hid (z.x.d ≠ [] → ∃ g, z.a = some ⟨g, 0, none⟩ ∧ OwC w5 g z.c z.x.d ∧ w.heap.size + 2 ≤ g ∧ ∀ (j : Nat) (y : Sz), zs[j]? = some y → y.x.d ≠ [] → y.a ≠ some ⟨g, 0, none⟩) := fun hd => by rw [hz] at hd; exact absurd rfl hd
          have hpp : ∀ s tail, okS s = true → lowS s = true → l.drop i = enc s ++ tail → z.x = s ∧ l.drop i2 = tail ∧ bad2 = false := fun s tail hok hlo hs => by
            obtain ⟨d1, d2⟩ := drop_enc1 HI.out hs
            by_cases hk : s.k = 1
            · obtain ⟨_, e2⟩ := d1 hk
              rw [lowS, low3, decide_eq_true_iff] at hlo
              obtain ⟨g0, g1, g2⟩ := ok3_one.1 (by have := hok; unfold okS at this; rwa [hk] at this)
              obtain ⟨f1, f2, f5⟩ := HP3.out _ _ e2 (by omega)
              obtain ⟨f3, f4, f6⟩ := HP4.out _ _ f2 (by omega)
              refine ⟨?_, f4, f6.trans f5⟩
              obtain ⟨sk, sp, sn, sd⟩ := s
              simp only at hk f1 f3 g0 g1 g2
              have : sd = [] := List.length_eq_zero_iff.1 g2
              subst this hk
              rw [hz]
              show Sp.mk 1 (m1 : Int) (m2 : Int) [] = Sp.mk 1 sp sn []
              rw [f1, f3, Int.toNat_of_nonneg g0, Int.toNat_of_nonneg (by omega)]
            · obtain ⟨e1, _⟩ := d2 hk
              have h9 := HYY.out
              rw [HYE.out HI.out _ e1] at h9
              exact absurd h9 (by decide)
          have HIL : Hid (i + 1 ≤ i2) := by show _ ≤ _; omega
          have HRP5 : Hid (RdP l i2 (xs (zs ++ [z]))) := by show RdP _ _ _; rw [xs_app]; exact HRP.out.step HI.out (by have := HNL.out; omega) (by rw [hz]; show i + 1 + 0 ≤ i2; omega) HSR5.out.le (fun s tail h1 h2 h3 => ⟨(hpp s tail h1 h2 h3).1, (hpp s tail h1 h2 h3).2.1⟩)
          have HNB5 : Hid (bad2 = true → ∀ ss, ¬ GoodD l ss) := fun hb ss hg => by
            have := HRP.out.nobad HI.out (bad := bad2) (fun s tail h1 h2 h3 => (hpp s tail h1 h2 h3).2.2) ss hg
            rw [this] at hb
            cases hb
          obtain ⟨x0, x1, x2, x3, xf⟩ := HX5.out
          have xf2 := xf 2
          have HW5 : Hid (w4.setCell ⟨wr.heap.size, 2, none⟩ (.int .i64 (m2 : Int)) = w5) := hw5
          obtain ⟨u0, u1, u2, u3, uf⟩ := hX6
          clear hpp hw5 hG6 hz
          have HNEW : Hid (∀ j u, (szV z)[j]? = some u → (w5.alloc (.cells (szV z).toArray 41)).cell? ((⟨w4.heap.size, 0, none⟩ : Addr).add j) = some u) := by rw [← HS54.out]; exact szV_at w5 z _
          have HONE : Hid (∀ u ∈ szV z, u.oneCell' = true) := szV_one z
          have HLEN : Hid ((szV z).length = 1 * 4) := rfl
          have hcl1 : zl + 1 ≤ maxLen := by unfold maxLen; omega
          have hcl2 : (zl + 1) * 48 ≤ 140737488355328 := by omega
          have HOWN : Hid ((w5.alloc (.cells (szV z).toArray 41)).ownsRow (w.heap.size + 2) 41 4 (.slice va zl vc) zl (szC zs)) := by
            have := (HRO5.out.own.alloc (.cells (szV z).toArray 41))
            rw [HZL.out] at this
            exact this
          have HSZ5 : Hid (w.heap.size + 2 ≤ (w5.alloc (.cells (szV z).toArray 41)).heap.size) := by show _ ≤ _; rw [World.size_alloc]; have := HS5.out; omega
          have HBA5 : Hid (Below w5.heap.size w5 (w5.alloc (.cells (szV z).toArray 41))) := (Below.refl _ _).alloc (Nat.le_refl _) _
          have HZC : Hid (zl + 1 = zs.length + 1) := by show _ = _; rw [HZL.out]
          rw [hzE] at HNEW HONE HLEN HOWN HSZ5 HBA5
          have HZE : Hid (szV z = [.int .i64 1, .int .i64 (m1 : Int), .int .i64 (m2 : Int), .slice none 0 0]) := hzE
          clear hzE
          go_wp2_with (first
            | (at_builtin; rw [HW5.out]; refine app_ownS _ rfl _ _ 26 rfl (w.heap.size + 2) 41 (.agg #[.int .i64 0, .int .i64 0, .int .i64 0, .slice none 0 0]) 4 48 Try.underlying26 infoSt rfl (by decide) (.slice va zl vc) zl (szC zs) rfl HOWN.out ⟨w4.heap.size, 0, none⟩ 1 1 _ rfl HLEN.out HNEW.out HONE.out hcl1 hcl2 HSZ5.out ?_; intro v6 w6 hown6 hg6; refine Hid.out ?_)
            | go_in)
          refine Lib.hid ?_
          have HRO6 : Hid (RowS (w.heap.size + 2) w6 v6 (zs ++ [z])) := RowS.push (HRO5.out.below HBA5.out) (by rw [← HZC.out, HZE.out]; exact hown6) hg6 (fun hd => by
            obtain ⟨g, e, ho, h1, h2⟩ := HD5.out hd
            exact ⟨g, e, ho.kept HBA5.out.size (HBA5.out.block g ho.lt), h1, h2⟩)
          obtain ⟨va6, vc6, rfl⟩ := own_shape hown6
          have HB6 : Hid (Below w.heap.size w w6) := (HB5.out.trans (HBA5.out.mono HB5.out.size)).grown hg6 (Nat.le_trans HB5.out.size HBA5.out.size) (fun k hk => by have := (HOWN.out.lt k hk).1; omega)
          have HSR6 : Hid (Sr C w6 (w.heap.size + 1) b l.length i2 bad2) := Sr.kept (Sr.below HSR5.out HBA5.out) (hg6.block _ (by have := HS5.out; have := HBA5.out.size; omega) (fun e => by have := (HOWN.out.lt _ e.symm).1; omega))
          have HRN6 : Hid (RowS w.heap.size w6 (.slice (some ⟨w.heap.size, 0, none⟩) 0 0) []) := rown_kept (HRN5.out.below HBA5.out) (hg6.block _ (by have := HS5.out; have := HBA5.out.size; omega) (fun e => by have := (HOWN.out.lt _ e.symm).1; omega))
          clear hown6 hg6
          by_cases hbig : zl + 1 ≤ 10000
          · have hbig' : ¬ (10000 : Int) < (zl : Int) + 1 := by omega
            go_wp2
            go_roundw
            case rel => exact ⟨i2, zs ++ [z], va6, vc6, bad2, by rw [slc_app, HZC.out], by have := HIL.out; omega, HSR6.out, by rw [slc_app, ← HZC.out]; exact HRO6.out, HRP5.out, by rw [slc_app, ← HZC.out]; exact hbig, HNB5.out, HRN6.out, HB6.out⟩
            case measure => rw [lf_of HSR6.out, HLF.out]; have := HI.out; have := HIL.out; have := HSR6.out.le; omega
          · have hbig' : (10000 : Int) < (zl : Int) + 1 := by omega
            have HNG : Hid (∀ ss, ¬ GoodD l ss) := fun ss hg => by
              have e := congrArg List.length (HRP5.out.pr ss hg).1
              have := (good_iff.1 hg.1).1
              rw [List.length_take, xs_len, slc_app, ← HZC.out] at e
              omega
            go_wp2
            go_ret2
            exact ⟨rdR_none HRN6.out HNG.out, HB6.out⟩
        · obtain ⟨x0, x1, x2, x3, xf⟩ := HX2.out
          go_wp2_with (go_at_call 27; rw [HW2.out]; refine (HRT.out _ _ _ HB2.out HS2.out).mono ?_; rintro e w3 ⟨S, i2, bad2, rfl, hS, hi2, hs3, hb3, hg3, hp3⟩; have HP3 : Hid (∀ T tail, l.drop (i + 1) = bf.num T.length ++ T ++ tail → T.length ≤ 1048576 → S.data.toList = T ∧ l.drop i2 = tail ∧ bad2 = false) := (fun T tail h1 h2 => hp3 T tail h1 h2 rfl); clear hp3 hb3; refine Hid.out ?_)
          refine Lib.hid ?_
          have hz3 : wr.heap.size < w3.heap.size := by have := hg3.size; have := HZ2.out; omega
          have HX3 : Hid (Bx w3 wr.heap.size (.int .i64 Y) (.int .i64 0) (.int .i64 0) (.slice none 0 0)) := HX2.out.kept (hg3.block _ (by have := HZ2.out; omega) (fun e => by have := Option.some.inj e; omega))
          have HG3 : Hid (wr.grownBy w3 (some (w.heap.size + 1))) := HG2.out.trans hg3
          have HS3 : Hid (Sr C w3 (w.heap.size + 1) b l.length i2 bad2) := hs3
          have HIS : Hid (i + 1 + S.size ≤ i2) := hi2
          clear hg3 hs3 x0 x1 x2 x3 xf hi2
          obtain ⟨cc, w4, hcv, hbf, hbw, hsz⟩ := bf.conv_bf (P := Try.prog) w3 9 22 5 S (by omega) Try.underlying9 Try.underlying22 Try.underlying5
          have HBF : Hid (Bf w3.heap.size w4 w3.heap.size cc S.data.toList) := hbf
          have HBW : Hid (Below w3.heap.size w3 w4) := hbw
          have HX5 : Hid (Bx w4 wr.heap.size (.int .i64 Y) (.int .i64 0) (.int .i64 0) (.slice none 0 0)) := HX3.out.kept (hbw.block _ HX3.out.lt)
          have HG5 : Hid (wr.grownBy w4 (some (w.heap.size + 1))) := grown_bel HG3.out hbw
          have HS4' : Hid (Sr C w4 (w.heap.size + 1) b l.length i2 bad2) := Sr.below HS3.out hbw
          clear hbf hbw hsz
          obtain ⟨z, hz⟩ : ∃ z : Sz, z = ⟨⟨Y, 0, 0, S.data.toList⟩, some ⟨w3.heap.size, 0, none⟩, cc⟩ := ⟨_, rfl⟩
          have hzE : szV z = [.int .i64 Y, .int .i64 0, .int .i64 0, .slice (some ⟨w3.heap.size, 0, none⟩) S.size cc] := by rw [hz]; unfold szV; simp
          obtain ⟨w5, hw5⟩ : ∃ w5, w4.setCell ⟨wr.heap.size, 3, none⟩ (.slice (some ⟨w3.heap.size, 0, none⟩) S.size cc) = w5 := ⟨_, rfl⟩
          have hX6 : Bx w5 wr.heap.size (.int .i64 Y) (.int .i64 0) (.int .i64 0) (.slice (some ⟨w3.heap.size, 0, none⟩) S.size cc) := by rw [← hw5]; exact HX5.out.set3
          have hG6 : wr.grownBy w5 (some (w.heap.size + 1)) := by rw [← hw5]; exact grown_new HG5.out (Nat.le_refl _)
          have HSR5 : Hid (Sr C w5 (w.heap.size + 1) b l.length i2 bad2) := by show Sr _ _ _ _ _ _ _; rw [← hw5]; exact Sr.kept HS4'.out (blk_oth (by omega))
          have HB5 : Hid (Below w.heap.size w w5) := HBG.out _ _ HBE.out hG6
          have HS54 : Hid (w5.heap.size = w4.heap.size) := by show _ = _; rw [← hw5]; simp
          have HS5 : Hid (w.heap.size + 2 ≤ w5.heap.size) := by show _ ≤ _; have := hG6.size; omega
          have HRO5 : Hid (RowS (w.heap.size + 2) w5 (.slice va zl vc) zs) := HROz.out.kept hG6 (by omega)
          have HRN5 : Hid (RowS w.heap.size w5 (.slice (some ⟨w.heap.size, 0, none⟩) 0 0) []) := rown_kept HRN.out (hG6.block _ (by omega) (fun e => by have := Option.some.inj e; omega))
          have HD5 : Hid (z.x.d ≠ [] → ∃ g, z.a = some ⟨g, 0, none⟩ ∧ OwC w5 g z.c z.x.d ∧ w.heap.size + 2 ≤ g ∧ ∀ (j : Nat) (y : Sz), zs[j]? = some y → y.x.d ≠ [] → y.a ≠ some ⟨g, 0, none⟩) := fun hd => by
            have hF := HBF.out
            refine ⟨w3.heap.size, by rw [hz], ?_, by omega, fun j y hy hyd e2 => ?_⟩
            · rw [hz, ← hw5]
              exact OwC.kept (w := w4) (OwC.of hF) (by simp) (blk_oth (by omega))
            · obtain ⟨g', e', ho', _⟩ := HROz.out.dat j y hy hyd
              rw [e'] at e2
              simp only [Option.some.injEq, Addr.mk.injEq, and_true] at e2
              have := ho'.lt
              omega
          have hpp : ∀ s tail, okS s = true → lowS s = true → l.drop i = enc s ++ tail → z.x = s ∧ l.drop i2 = tail ∧ bad2 = false := fun s tail hok hlo hs => by
            obtain ⟨d1, d2⟩ := drop_enc1 HI.out hs
            by_cases hk : s.k = 1
            · obtain ⟨e1, _⟩ := d1 hk
              have h9 := HYY.out
              rw [HYE.out HI.out _ e1] at h9
              exact absurd h9.symm h1
            · obtain ⟨e1, e2⟩ := d2 hk
              obtain ⟨hk2', g0, g1, g2⟩ := (ok3_two hk).1 hok
              have hlen2 : s.d.length ≤ 1048576 := by
                have := congrArg List.length e2
                rw [List.length_drop, List.length_append, List.length_append] at this
                omega
              obtain ⟨f1, f2, f3⟩ := HP3.out s.d tail (by rw [e2, List.append_assoc]) hlen2
              refine ⟨?_, f2, f3⟩
              have h9 := HYY.out
              rw [HYE.out HI.out _ e1] at h9
              obtain ⟨sk, sp, sn, sd⟩ := s
              simp only at hk2' g0 g1 f1
              subst hk2' g0 g1
              rw [hz]
              show Sp.mk Y 0 0 S.data.toList = Sp.mk 2 0 0 sd
              rw [f1, ← h9]
              rfl
          have HIL : Hid (i + 1 ≤ i2) := by show _ ≤ _; have := HIS.out; omega
          have HRP5 : Hid (RdP l i2 (xs (zs ++ [z]))) := by show RdP _ _ _; rw [xs_app]; exact HRP.out.step HI.out (by have := HNL.out; omega) (by rw [hz]; show i + 1 + S.data.toList.length ≤ i2; have := HIS.out; simpa using this) HSR5.out.le (fun s tail h1 h2 h3 => ⟨(hpp s tail h1 h2 h3).1, (hpp s tail h1 h2 h3).2.1⟩)
          have HNB5 : Hid (bad2 = true → ∀ ss, ¬ GoodD l ss) := fun hb ss hg => by
            have := HRP.out.nobad HI.out (bad := bad2) (fun s tail h1 h2 h3 => (hpp s tail h1 h2 h3).2.2) ss hg
            rw [this] at hb
            cases hb
          obtain ⟨x0, x1, x2, x3, xf⟩ := HX5.out
          have xf3 := xf 3
          have HW5 : Hid (w4.setCell ⟨wr.heap.size, 3, none⟩ (.slice (some ⟨w3.heap.size, 0, none⟩) S.size cc) = w5) := hw5
          obtain ⟨u0, u1, u2, u3, uf⟩ := hX6
          clear hpp hw5 hG6 hz
          have HNEW : Hid (∀ j u, (szV z)[j]? = some u → (w5.alloc (.cells (szV z).toArray 41)).cell? ((⟨w4.heap.size, 0, none⟩ : Addr).add j) = some u) := by rw [← HS54.out]; exact szV_at w5 z _
          have HONE : Hid (∀ u ∈ szV z, u.oneCell' = true) := szV_one z
          have HLEN : Hid ((szV z).length = 1 * 4) := rfl
          have hcl1 : zl + 1 ≤ maxLen := by unfold maxLen; omega
          have hcl2 : (zl + 1) * 48 ≤ 140737488355328 := by omega
          have HOWN : Hid ((w5.alloc (.cells (szV z).toArray 41)).ownsRow (w.heap.size + 2) 41 4 (.slice va zl vc) zl (szC zs)) := by
            have := (HRO5.out.own.alloc (.cells (szV z).toArray 41))
            rw [HZL.out] at this
            exact this
          have HSZ5 : Hid (w.heap.size + 2 ≤ (w5.alloc (.cells (szV z).toArray 41)).heap.size) := by show _ ≤ _; rw [World.size_alloc]; have := HS5.out; omega
          have HBA5 : Hid (Below w5.heap.size w5 (w5.alloc (.cells (szV z).toArray 41))) := (Below.refl _ _).alloc (Nat.le_refl _) _
          have HZC : Hid (zl + 1 = zs.length + 1) := by show _ = _; rw [HZL.out]
          rw [hzE] at HNEW HONE HLEN HOWN HSZ5 HBA5
          have HZE : Hid (szV z = [.int .i64 Y, .int .i64 0, .int .i64 0, .slice (some ⟨w3.heap.size, 0, none⟩) S.size cc]) := hzE
          clear hzE
          go_wp2_with (first
            | (at_builtin; rw [HW5.out]; refine app_ownS _ rfl _ _ 26 rfl (w.heap.size + 2) 41 (.agg #[.int .i64 0, .int .i64 0, .int .i64 0, .slice none 0 0]) 4 48 Try.underlying26 infoSt rfl (by decide) (.slice va zl vc) zl (szC zs) rfl HOWN.out ⟨w4.heap.size, 0, none⟩ 1 1 _ rfl HLEN.out HNEW.out HONE.out hcl1 hcl2 HSZ5.out ?_; intro v6 w6 hown6 hg6; refine Hid.out ?_)
            | go_in)
          refine Lib.hid ?_
          have HRO6 : Hid (RowS (w.heap.size + 2) w6 v6 (zs ++ [z])) := RowS.push (HRO5.out.below HBA5.out) (by rw [← HZC.out, HZE.out]; exact hown6) hg6 (fun hd => by
            obtain ⟨g, e, ho, h1, h2⟩ := HD5.out hd
            exact ⟨g, e, ho.kept HBA5.out.size (HBA5.out.block g ho.lt), h1, h2⟩)
          obtain ⟨va6, vc6, rfl⟩ := own_shape hown6
          have HB6 : Hid (Below w.heap.size w w6) := (HB5.out.trans (HBA5.out.mono HB5.out.size)).grown hg6 (Nat.le_trans HB5.out.size HBA5.out.size) (fun k hk => by have := (HOWN.out.lt k hk).1; omega)
          have HSR6 : Hid (Sr C w6 (w.heap.size + 1) b l.length i2 bad2) := Sr.kept (Sr.below HSR5.out HBA5.out) (hg6.block _ (by have := HS5.out; have := HBA5.out.size; omega) (fun e => by have := (HOWN.out.lt _ e.symm).1; omega))
          have HRN6 : Hid (RowS w.heap.size w6 (.slice (some ⟨w.heap.size, 0, none⟩) 0 0) []) := rown_kept (HRN5.out.below HBA5.out) (hg6.block _ (by have := HS5.out; have := HBA5.out.size; omega) (fun e => by have := (HOWN.out.lt _ e.symm).1; omega))
          clear hown6 hg6
          by_cases hbig : zl + 1 ≤ 10000
          · have hbig' : ¬ (10000 : Int) < (zl : Int) + 1 := by omega
            go_wp2
            go_roundw
            case rel => exact ⟨i2, zs ++ [z], va6, vc6, bad2, by rw [slc_app, HZC.out], by have := HIL.out; omega, HSR6.out, by rw [slc_app, ← HZC.out]; exact HRO6.out, HRP5.out, by rw [slc_app, ← HZC.out]; exact hbig, HNB5.out, HRN6.out, HB6.out⟩
            case measure => rw [lf_of HSR6.out, HLF.out]; have := HI.out; have := HIL.out; have := HSR6.out.le; omega
          · have hbig' : (10000 : Int) < (zl : Int) + 1 := by omega
            have HNG : Hid (∀ ss, ¬ GoodD l ss) := fun ss hg => by
              have e := congrArg List.length (HRP5.out.pr ss hg).1
              have := (good_iff.1 hg.1).1
              rw [List.length_take, xs_len, slc_app, ← HZC.out] at e
              omega
            go_wp2
            go_ret2
            exact ⟨rdR_none HRN6.out HNG.out, HB6.out⟩
    · have hi' : ¬ (i : Int) < (N : Int) := by omega
      cases bad with
      | true =>
        have HNG : Hid (∀ ss, ¬ GoodD l ss) := HNB.out rfl
        go_wp2
        go_ret2
        exact ⟨rdR_none HRN.out HNG.out, HBE.out⟩
      | false =>
        have HEND : Hid (∀ ss, GoodD l ss → xs zs = ss) := HRP.out.stop (.inl (by have := HNL.out; omega))
        obtain ⟨G, cap, gs, hv, how⟩ := HROz.out.ow
        simp only [Value.slice.injEq] at hv
        obtain ⟨rfl, hzz, rfl⟩ := hv
        clear hzz
        have HWT : Hid (wt (xs zs) ≤ 1048576) := by show _ ≤ _; have := HRP.out.w; have := HRP.out.le; omega
        have HDB : Hid (Calls Try.prog 21 #[.slice (some ⟨G, 0, none⟩) zl vc] wr fun e w' => (∃ g c z, e = .returned (.slice (some ⟨g, 0, none⟩) z c) ∧ Bys wr w' (dbB (xs zs)) g c z) ∧ Below wr.heap.size wr w') := by
          have := sdb_any G 0 vc (xs zs) wr (rd_ow how) HWT.out
          rwa [xs_len, HZL.out] at this
        clear how
        go_wp2_with (go_at_call 21; refine HDB.out.mono ?_; rintro e w5 ⟨⟨g5, c5, z5, rfl, hz5, hbf5⟩, hl5⟩; have HZ5 : Hid (z5 = (dbB (xs zs)).length) := hz5; clear hz5; refine Hid.out ?_)
        refine Lib.hid ?_
        have HB5 : Hid (Below w.heap.size w w5) := HBE.out.trans (hl5.mono HBE.out.size)
        have HR5 : Hid (RowS (w.heap.size + 2) w5 (.slice (some ⟨G, 0, none⟩) zl vc) zs) := HROz.out.below hl5
        have HRN5 : Hid (RowS w.heap.size w5 (.slice (some ⟨w.heap.size, 0, none⟩) 0 0) []) := HRN.out.below hl5
        have HEQ : Hid (Calls Try.prog 28 #[.slice (some ⟨g5, 0, none⟩) z5 c5, .slice (some ⟨b, 0, none⟩) N C] w5 fun e w' => e = .returned (.bool (decide (dbB (xs zs) = l))) ∧ w' = w5) := same_any g5 z5 c5 b N C _ _ w5 hbf5.cells (HBY.out _ HB5.out) HZ5.out HNL.out
        clear hbf5 hl5
        by_cases hq : dbB (xs zs) = l
        · rw [decide_eq_true hq] at HEQ
          have HQ : Hid (dbB (xs zs) = l) := hq
          clear hq
          go_wp2_with (go_at_call 28; refine HEQ.out.mono ?_; rintro e w6 ⟨rfl, hw6⟩; obtain rfl := hw6.symm)
          go_ret2
          exact ⟨⟨.slice (some ⟨G, 0, none⟩) zl vc, true, zs, w.heap.size + 2, rfl, by omega, HR5.out, HWT.out, .inl ⟨rfl, HRP.out.yes HQ.out, HEND.out⟩⟩, HB5.out⟩
        · rw [decide_eq_false hq] at HEQ
          have HQ : Hid (¬ dbB (xs zs) = l) := hq
          clear hq
          have HNG : Hid (∀ ss, ¬ GoodD l ss) := fun ss hg => HQ.out (by rw [HEND.out ss hg]; exact hg.2)
          go_wp2_with (go_at_call 28; refine HEQ.out.mono ?_; rintro e w6 ⟨rfl, hw6⟩; obtain rfl := hw6.symm)
          go_ret2
          exact ⟨rdR_none HRN5.out HNG.out, HB5.out⟩

set_option maxRecDepth 100000 in
theorem srd_any (b N : Nat) (l : List UInt8) (hNl : N = l.length) (hN : l.length ≤ 1048576) (w : World) (hB : up.By w b l) (hbw : b < w.heap.size) (hC : N ≤ C) (hCm : C ≤ 9223372036854775807) :
    Calls Try.prog 10 #[.slice (some ⟨b, 0, none⟩) N C] w fun e w' => RdR w w' l e ∧ Below w.heap.size w w' := by
  by_cases h4 : N < 4
  · exact srd_short b N l hNl hN w h4
  · by_cases hh : l.take 4 = [76, 68, 84, 49]
    · exact srd_main b N l hNl hN w hB hbw hC hCm h4 hh
    · exact srd_head b N l hNl hN w hB hC h4 hh

end Go.Proofs.Ytogakignaaoklaa.dl
