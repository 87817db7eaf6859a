import Derived.Test.YtbpkekdapkkilaaDoorUD
import Derived.Test.YtbpkekdapkkilaaDoorPD
import Derived.Maps.AppendAt
namespace Go.Proofs.YtbpkekdapkkilaaDoor.up
open Go.ChangeShapes Go.WideShapes Go.ChangeAt Go.RowKit Go.Deep
set_option linter.unusedVariables false
set_option linter.unusedSimpArgs false

/-! ### impl.UnpackTree -/

/-- Where the loop stands. -/
structure UpI (wr : World) (bs p b : Nat) (l : List UInt8) (v : Value) (m c i' : Nat) (X : Nat → tt.En) : Prop where
  own : wr.ownsRow bs 42 4 v c (tt.enC X c)
  nn : v ≠ .slice none 0 0
  sm : tt.SmE c X
  c5 : c ≤ 500
  cm : c ≤ m
  ci : c ≤ i'
  rs : Rs wr p b l.length i'
  pr : ∀ E n, Good l E n → m = n ∧ c ≤ n ∧ (∀ k, k < c → X k = E k) ∧ tt.pkL E n = tt.pkL E c ++ l.drop i'

theorem UpI.out {wr : World} {bs p b m c i' : Nat} {l : List UInt8} {v : Value} {X : Nat → tt.En} (h : UpI wr bs p b l v m c i' X) (he : c = m ∨ l.length ≤ i' ∨ c = 500) : Out wr bs l v c X := by
  refine ⟨h.own, h.nn, h.sm, h.c5, fun hl => ?_, fun E n hg => ?_⟩
  · obtain ⟨o, cc, _, _, _, _, _, hi⟩ := h.rs
    have := h.ci
    rw [hl] at hi
    simp at hi
    omega
  · obtain ⟨hm, hc, hx, hk⟩ := h.pr E n hg
    have hcn : c = n := by
      rcases he with he | he | he
      · omega
      · apply Classical.byContradiction
        intro hne
        rw [List.drop_eq_nil_of_le he, List.append_nil] at hk
        obtain ⟨r, hr⟩ := pkL_pre E (c + 1) n (by omega)
        rw [tt.pkL, hk, List.append_assoc] at hr
        have h2 : ([] : List UInt8) = tt.pkE (E c) ++ r := List.append_cancel_left ((List.append_nil (tt.pkL E c)).trans hr)
        exact pkE_ne (E c) (List.append_eq_nil_iff.1 h2.symm).1
      · have := (tt.treeB_tr' hg.1).1
        omega
    exact ⟨hcn, fun k hk' => hx k (by omega)⟩

set_option maxRecDepth 100000 in
set_option maxHeartbeats 8000000 in
theorem iunp_any (hC : ∀ E, tt.AtC E) (b N : Nat) (l : List UInt8) (hNl : N = l.length) (hN : l.length ≤ 1048576) (w : World) (hB : By w b l) (hbw : b < w.heap.size) (hm : tt.ML w) :
    Calls Tryd.prog 7 #[.slice (some ⟨b, 0, none⟩) N N] w fun e w' => UnR w w' l e ∧ Below w.heap.size w w' := by
  have HNL : Hid (N = l.length) := hNl
  have HML : Hid (∀ W, Below w.heap.size w W → tt.ML W) := fun W hW => hm.below hW
  have HBY : Hid (∀ W, Below w.heap.size w W → By W b l) := fun W hW => hB.below hW
  have hbp : b ≠ w.heap.size := by omega
  have hN2 : N ≤ 1048576 := by omega
  have HR0 : Hid (∀ T, Rs (w.alloc (.cells #[.slice (some ⟨b, 0, none⟩) N N] T)) w.heap.size b l.length 0) := fun T => by
    have hc : (w.alloc (.cells #[.slice (some ⟨b, 0, none⟩) N N] T)).cell? ⟨w.heap.size, 0, none⟩ = some (.slice (some ⟨b, 0, none⟩) N N) := by
      have := World.cell?_alloc_new w #[Value.slice (some ⟨b, 0, none⟩) N N] T 0
      rw [this]; rfl
    have hbk := heap_alloc_new w (.cells #[Value.slice (some ⟨b, 0, none⟩) N N] T)
    refine ⟨0, N, by rw [← hNl]; exact hc, by unfold World.frozen?; simp only [hbk]; simp, fun _ => rfl, by omega, by omega, by omega⟩
  have HG0 : Hid (∀ T, Below w.heap.size w (w.alloc (.cells #[.slice (some ⟨b, 0, none⟩) N N] T))) := fun T => (Below.refl _ _).alloc (Nat.le_refl _) _
  have HCU : Hid (∀ W, Rs W w.heap.size b l.length 0 → Calls Tryd.prog 22 #[.pointer (some ⟨w.heap.size, 0, none⟩), .int .u64 4] W fun e w' => CutR W w' w.heap.size b l.length 0 4 e) := fun W hW => cut_any b w.heap.size l.length 0 4 (by omega) W hW hN
  have HNU : Hid (∀ W i, Below w.heap.size w W → Rs W w.heap.size b l.length i → Calls Tryd.prog 23 #[.pointer (some ⟨w.heap.size, 0, none⟩)] W fun e w' => NumR W w' w.heap.size b l i e) := fun W i hW hR => number_any b w.heap.size i l hbp hN W hR (HBY.out W hW)
  have HEN : Hid (∀ W i, i < l.length → Below w.heap.size w W → Rs W w.heap.size b l.length i → Calls Tryd.prog 24 #[.pointer (some ⟨w.heap.size, 0, none⟩)] W fun e w' => EntR W w' w.heap.size b l i e) := fun W i hi hW hR => entry_any b w.heap.size i l hbp hN hi W hR (HBY.out W hW)
  have HBG : Hid (∀ W W', Below w.heap.size w W → W.grownBy W' (some w.heap.size) → Below w.heap.size w W') := fun W W' h1 h2 => h1.grown h2 h1.size (fun k hk => by cases hk; exact Nat.le_refl _)
  clear hNl hB hm
  go_enter Tryd.func7, Tryd.ntmps7
  go_wp2_with (first
    | (go_at_call 22; refine (HCU.out _ (HR0.out _)).mono ?_; rintro e w1 ⟨o1, k1, hk1, rfl, ho1, hr1, hg1⟩; have HK1 : Hid (k1 = min 4 (l.length - 0)) := hk1; clear hk1; have HB1 := HBG.out _ _ (HG0.out _) hg1; have hw1 : w.heap.size < w1.heap.size := (by have := hg1.size; simp only [World.size_alloc] at this; omega); refine Hid.out ?_))
  refine Lib.hid ?_
  have HRA : Hid (∀ ob, Rs (w1.alloc ob) w.heap.size b l.length (0 + k1)) := fun ob => hr1.below ((Below.refl _ _).alloc (Nat.le_refl _) _)
  have HBA : Hid (∀ ob, Below w.heap.size w (w1.alloc ob)) := fun ob => HB1.alloc HB1.size _
  have HO0 : Hid ((w1.alloc (.cells #[] 42)).ownsRow w1.heap.size 42 4 (.slice (some ⟨w1.heap.size, 0, none⟩) 0 0) 0 []) := tt.made_own w1 0 (by omega) #[] rfl
  clear hr1 hg1 ho1
  go_wp2_with (go_at_call 23; refine (HNU.out _ _ (HBA.out _) (HRA.out _)).mono ?_; rintro e w2 ⟨m, i2, rfl, hm2, hi2, hr2, hg2, hp2⟩; have HM2 : Hid (m < 18446744073709551616) := hm2; clear hm2; refine Hid.out ?_)
  refine Lib.hid ?_
  have HBE2 : Hid (Below w.heap.size w w2) := HBG.out _ _ (HBA.out _) hg2
  obtain ⟨bs, hbs⟩ : ∃ bs, bs = w1.heap.size := ⟨_, rfl⟩
  have hwb : w.heap.size ≤ bs := by omega
  have hwb2 : w.heap.size < bs := by omega
  have HW2B : Hid (bs ≤ w2.heap.size) := by show _ ≤ _; have := hg2.size; simp only [World.size_alloc] at this; omega
  have HI0 : Hid (UpI w2 bs w.heap.size b l (.slice (some ⟨w1.heap.size, 0, none⟩) 0 0) m 0 i2 (fun _ => default)) := by
    refine ⟨?_, (by intro e; cases e), fun i hi => by omega, by omega, by omega, by omega, hr2, fun E n hg => ?_⟩
    · rw [hbs]
      exact own_grown HO0.out hg2 (by omega)
    · have hn5 := (tt.treeB_tr' hg.1).1
      have hl : l = tt.hd n ++ tt.pkL E n := by rw [hg.2.2, tt.pkB_yes hg.1]
      have hk4 : k1 = 4 := by
        have h1 := HK1.out
        have h2 := congrArg List.length hl
        unfold tt.hd at h2
        simp only [List.length_append, List.length_cons, List.length_nil] at h2
        omega
      have hd4 : l.drop (0 + k1) = bf.num n ++ tt.pkL E n := by
        rw [hk4, hl]
        unfold tt.hd
        simp
      obtain ⟨e1, e2⟩ := hp2 n (tt.pkL E n) hd4 (by omega)
      exact ⟨e1, by omega, fun k hk => by omega, by rw [e2]; rfl⟩
  clear hr2 hg2 hp2 hbs
  go_wp2
  go_loopw [5, 14] (fun v x wr => ∃ (c i' : Nat) (X : Nat → tt.En), x = .int .u64 (c : Int) ∧ UpI wr bs w.heap.size b l v m c i' X ∧ Below w.heap.size w wr ∧ bs ≤ wr.heap.size) (fun _ x _ => 501 - (intOf x).toNat)
  case atStart => exact ⟨0, i2, _, rfl, HI0.out, HBE2.out, HW2B.out⟩
  case round =>
    obtain ⟨c, i', X, rfl, hI, hbel, hbsw⟩ := hrel
    have HII : Hid (UpI wr bs w.heap.size b l u5 m c i' X) := hI
    have HBE : Hid (Below w.heap.size w wr) := hbel
    have hc5 := hI.c5
    obtain ⟨o, cc, hcl, hf, ho, hcN, hcm, hiN⟩ := hI.rs
    clear hI hbel
    by_cases hcm' : c < m
    · have hcmi : (c : Int) < (m : Int) := by omega
      obtain ⟨n0, hn0⟩ : ∃ n0, l.length - i' = n0 := ⟨_, rfl⟩
      rw [hn0] at hcl
      have HN0 : Hid (l.length - i' = n0) := hn0
      clear hn0
      obtain ⟨at5, cp5, hv5⟩ := own_shape HII.out.own
      by_cases hz : n0 = 0
      · subst hz
        have HOUT : Hid (Out wr bs l u5 c X) := HII.out.out (.inr (.inl (by have := HN0.out; omega)))
        subst hv5
        go_upto_region 9 with fail
        obtain ⟨gt, ct, ft, hveq, hgb, hnc, hcm2, hrowt, hEt⟩ := tt.own_rowE HOUT.out.own HOUT.out.nn
        obtain rfl : at5 = some ⟨gt, 0, none⟩ := by cases hveq; rfl
        obtain rfl : ct = cp5 := by cases hveq; rfl
        clear hveq
        have HET : Hid (tt.EnR wr gt 0 c X) := hEt
        have HROW : Hid (tt.RowE w.heap.size wr (.slice (some ⟨gt, 0, none⟩) c ct) c X) := ⟨gt, ct, ft, rfl, Nat.le_trans hwb hgb, hnc, hcm2, hrowt, hEt⟩
        have HIP : Hid (Calls Tryd.prog 26 #[.slice (some ⟨gt, 0, none⟩) c ct] wr fun e w' => (∃ g c' z, e = .returned (.slice (some ⟨g, 0, none⟩) z c') ∧ tt.Pkd wr w' (tt.pkB X c) g c' z) ∧ Below wr.heap.size wr w') := tt.ipack_any X gt 0 c ct wr hEt HOUT.out.sm (by have := HOUT.out.c5; omega) (HML.out _ HBE.out) (hC X)
        clear hgb hnc hcm2 hrowt hEt
        go_wp2_with (go_at_call 26; refine HIP.out.mono ?_; rintro e w5 ⟨⟨g5, c5, z5, rfl, hz5, hbf5⟩, hl5⟩; have HZ5 : Hid (z5 = (tt.pkB X c).length) := hz5; clear hz5; refine Hid.out ?_)
        refine Lib.hid ?_
        have HB5 : Hid (Below w.heap.size w w5) := HBE.out.trans (hl5.mono HBE.out.size)
        have HEQ : Hid (Calls Tryd.prog 25 #[.slice (some ⟨g5, 0, none⟩) z5 c5, .slice (some ⟨b, 0, none⟩) N N] w5 fun e w' => e = .returned (.bool (decide (tt.pkB X c = l))) ∧ w' = w5) := bytes_eq_any g5 z5 c5 b N N _ _ w5 (bf_by hbf5) (HBY.out w5 HB5.out) HZ5.out HNL.out
        have HROW5 : Hid (tt.RowE w.heap.size w5 (.slice (some ⟨gt, 0, none⟩) c ct) c X) := rowE_below HROW.out hl5
        clear hbf5
        by_cases hpk : tt.pkB X c = l
        · rw [decide_eq_true hpk] at HEQ
          have HR : Hid (UnR w w5 l (.returned (.tuple #[.slice (some ⟨gt, 0, none⟩) c ct, .bool true]))) := unR_yes HROW5.out HOUT.out hpk
          clear hpk
          go_wp2_with (go_at_call 25; refine HEQ.out.mono ?_; rintro e w6 ⟨rfl, hw6⟩; obtain rfl := hw6.symm)
          go_ret2
          exact ⟨HR.out, HB5.out⟩
        · rw [decide_eq_false hpk] at HEQ
          have HR : Hid (UnR w (w5.alloc (.cells #[] 42)) l (.returned (.tuple #[.slice (some ⟨w5.heap.size, 0, none⟩) 0 0, .bool false]))) := unR_no HB5.out HOUT.out hpk
          clear hpk
          go_wp2_with (go_at_call 25; refine HEQ.out.mono ?_; rintro e w6 ⟨rfl, hw6⟩; obtain rfl := hw6.symm)
          go_ret2
          exact ⟨HR.out, HB5.out.alloc HB5.out.size _⟩
      · have hz' : ¬ (n0 : Int) = 0 := by omega
        have hz2 : ((n0 : Int) == 0) = false := by rw [beq_eq_false_iff_ne]; omega
        by_cases hfull : c = 500
        · have HOUT : Hid (Out wr bs l u5 c X) := HII.out.out (.inr (.inr hfull))
          have hfull' : (c : Int) = 500 := by omega
          have hfull2 : ((c : Int) == 500) = true := by rw [beq_iff_eq]; omega
          have HFU : Hid (c = 500) := hfull
          clear hfull
          subst hv5
          go_upto_region 9 with fail
          obtain ⟨gt, ct, ft, hveq, hgb, hnc, hcm2, hrowt, hEt⟩ := tt.own_rowE HOUT.out.own HOUT.out.nn
          obtain rfl : at5 = some ⟨gt, 0, none⟩ := by cases hveq; rfl
          obtain rfl : ct = cp5 := by cases hveq; rfl
          clear hveq
          have HET : Hid (tt.EnR wr gt 0 c X) := hEt
          have HROW : Hid (tt.RowE w.heap.size wr (.slice (some ⟨gt, 0, none⟩) c ct) c X) := ⟨gt, ct, ft, rfl, Nat.le_trans hwb hgb, hnc, hcm2, hrowt, hEt⟩
          have HIP : Hid (Calls Tryd.prog 26 #[.slice (some ⟨gt, 0, none⟩) c ct] wr fun e w' => (∃ g c' z, e = .returned (.slice (some ⟨g, 0, none⟩) z c') ∧ tt.Pkd wr w' (tt.pkB X c) g c' z) ∧ Below wr.heap.size wr w') := tt.ipack_any X gt 0 c ct wr hEt HOUT.out.sm (by have := HOUT.out.c5; omega) (HML.out _ HBE.out) (hC X)
          clear hgb hnc hcm2 hrowt hEt
          go_wp2_with (go_at_call 26; refine HIP.out.mono ?_; rintro e w5 ⟨⟨g5, c5, z5, rfl, hz5, hbf5⟩, hl5⟩; have HZ5 : Hid (z5 = (tt.pkB X c).length) := hz5; clear hz5; refine Hid.out ?_)
          refine Lib.hid ?_
          have HB5 : Hid (Below w.heap.size w w5) := HBE.out.trans (hl5.mono HBE.out.size)
          have HEQ : Hid (Calls Tryd.prog 25 #[.slice (some ⟨g5, 0, none⟩) z5 c5, .slice (some ⟨b, 0, none⟩) N N] w5 fun e w' => e = .returned (.bool (decide (tt.pkB X c = l))) ∧ w' = w5) := bytes_eq_any g5 z5 c5 b N N _ _ w5 (bf_by hbf5) (HBY.out w5 HB5.out) HZ5.out HNL.out
          have HROW5 : Hid (tt.RowE w.heap.size w5 (.slice (some ⟨gt, 0, none⟩) c ct) c X) := rowE_below HROW.out hl5
          clear hbf5
          by_cases hpk : tt.pkB X c = l
          · rw [decide_eq_true hpk] at HEQ
            have HR : Hid (UnR w w5 l (.returned (.tuple #[.slice (some ⟨gt, 0, none⟩) c ct, .bool true]))) := unR_yes HROW5.out HOUT.out hpk
            clear hpk
            go_wp2_with (go_at_call 25; refine HEQ.out.mono ?_; rintro e w6 ⟨rfl, hw6⟩; obtain rfl := hw6.symm)
            go_ret2
            exact ⟨HR.out, HB5.out⟩
          · rw [decide_eq_false hpk] at HEQ
            have HR : Hid (UnR w (w5.alloc (.cells #[] 42)) l (.returned (.tuple #[.slice (some ⟨w5.heap.size, 0, none⟩) 0 0, .bool false]))) := unR_no HB5.out HOUT.out hpk
            clear hpk
            go_wp2_with (go_at_call 25; refine HEQ.out.mono ?_; rintro e w6 ⟨rfl, hw6⟩; obtain rfl := hw6.symm)
            go_ret2
            exact ⟨HR.out, HB5.out.alloc HB5.out.size _⟩
        · have hfull' : ¬ (c : Int) = 500 := by omega
          have hfull2 : ((c : Int) == 500) = false := by rw [beq_eq_false_iff_ne]; omega
          have HIL : Hid (i' < l.length) := by show _ < _; have := HN0.out; omega
          have HOW : Hid (wr.ownsRow bs 42 4 u5 c (tt.enC X c)) := HII.out.own
          have HNN : Hid (u5 ≠ .slice none 0 0) := HII.out.nn
          subst hv5
          have HC2 : Hid (c ≤ 2000000) := by show _ ≤ _; omega
          go_wp2_with (go_at_call 24; refine (HEN.out _ _ HIL.out HBE.out HII.out.rs).mono ?_; rintro e w3 ⟨⟨P, kd, d, xx⟩, i3, rfl, hx1, hx2, hi3, hr3, hg3, hp3⟩; have HP3 : Hid (∀ (y : tt.En) tail, l.drop i' = tt.pkE y ++ tail → 1 ≤ y.kind ∧ y.kind ≤ 3 → y.path.size ≤ 1048576 → y.data.size ≤ 1048576 → (⟨P, kd, d, xx⟩ : tt.En) = y ∧ l.drop i3 = tail) := hp3; have HX1 : Hid (P.size ≤ l.length) := hx1; have HX2 : Hid (d.size ≤ l.length) := hx2; clear hp3 hx1 hx2; refine Hid.out ?_)
          refine Lib.hid ?_
          have HB3 : Hid (Below w.heap.size w w3) := HBG.out _ _ HBE.out hg3
          have HS3 : Hid (bs ≤ w3.heap.size) := Nat.le_trans hbsw hg3.size
          have HO3 : Hid (∀ ob, (w3.alloc ob).ownsRow bs 42 4 (.slice at5 c cp5) c (tt.enC X c)) := fun ob => own_below (own_grown HOW.out hg3 hwb2) ((Below.refl _ _).alloc (Nat.le_refl _) _)
          have HSB : Hid (∀ ob, bs ≤ (w3.alloc ob).heap.size) := fun ob => by have := HS3.out; rw [World.size_alloc]; omega
          have HR3 : Hid (∀ ob, Rs (w3.alloc ob) w.heap.size b l.length i3) := fun ob => hr3.below ((Below.refl _ _).alloc (Nat.le_refl _) _)
          have HBA3 : Hid (∀ ob, Below w.heap.size w (w3.alloc ob)) := fun ob => HB3.out.alloc HB3.out.size _
          have HNX : Hid (tt.enC (setX X c ⟨P, kd, d, xx⟩) (c + 1) = tt.enC X c ++ [.string P, .int .i64 kd, .string d, .bool xx]) := by
            show _ = _
            rw [tt.enC_succ, setX_at, tt.enC_congr (fun i hi => setX_lt hi)]
          have hcb : (c : Int) ≤ 500 := by omega
          clear hr3 hg3
          go_wp2_with (first
            | (at_builtin; refine tt.app_ent _ rfl _ _ rfl bs _ _ _ rfl (HO3.out _) HNN.out ⟨w3.heap.size, 0, none⟩ 1 (.string P) (.int .i64 kd) (.string d) (.bool xx) rfl (tt.four_at _ _ rfl _ _ _ _ _) (tt.four_one P kd d xx) HC2.out (HSB.out _) ?_; intro v4 w4 hown4 hv4 hg4; refine Hid.out ?_)
            | go_in)
          refine Lib.hid ?_
          have hob : ∀ k, (Value.slice at5 c cp5).ownBlock = some k → bs ≤ k := fun k hk => ((HO3.out (.cells #[.string P, .int .i64 kd, .string d, .bool xx] 42)).lt k hk).1
          have HB4 : Hid (Below w.heap.size w w4) := (HBA3.out _).grown hg4 (HBA3.out _).size (fun k hk => Nat.le_trans hwb (hob k hk))
          have HS4 : Hid (bs ≤ w4.heap.size) := Nat.le_trans (HSB.out _) hg4.size
          have HNI : Hid (UpI w4 bs w.heap.size b l v4 m (c + 1) i3 (setX X c ⟨P, kd, d, xx⟩)) := by
            refine ⟨by rw [HNX.out]; exact hown4, hv4, fun k hk => ?_, by omega, by omega, by have := HII.out.ci; omega, (HR3.out _).kept (hg4.block _ (HR3.out _).lt (fun e => by have := hob _ e.symm; omega)), fun E n hg => ?_⟩
            · by_cases hkc : k < c
              · rw [setX_lt hkc]; exact HII.out.sm k hkc
              · obtain rfl : k = c := by omega
                rw [setX_at]
                exact ⟨by have := HX1.out; show P.size ≤ _; omega, by have := HX2.out; show d.size ≤ _; omega⟩
            · obtain ⟨e1, e2, e3, e4⟩ := HII.out.pr E n hg
              obtain ⟨r, hr⟩ := pkL_pre E (c + 1) n (by omega)
              have hdr : l.drop i' = tt.pkE (E c) ++ r := by
                rw [e4, tt.pkL, List.append_assoc] at hr
                exact List.append_cancel_left hr
              have hsm := hg.2.1 c (by omega)
              obtain ⟨f1, f2⟩ := HP3.out (E c) r hdr (tt.kind_of (tt.treeB_tr' hg.1).2 (by omega)) hsm.1 hsm.2
              refine ⟨e1, by omega, fun k hk => ?_, by rw [hr, f2]⟩
              by_cases hkc : k < c
              · rw [setX_lt hkc]; exact e3 k hkc
              · obtain rfl : k = c := by omega
                rw [setX_at]; exact f1
          clear hown4 hv4 hg4 hob
          go_wp2
          go_roundw
          case rel => exact ⟨c + 1, i3, _, by go_num, HNI.out, HB4.out, HS4.out⟩
          case measure => simp [intOf]; omega
    · have hcmi : ¬ (c : Int) < (m : Int) := by omega
      have HOUT : Hid (Out wr bs l u5 c X) := HII.out.out (.inl (by have := HII.out.cm; omega))
      obtain ⟨at5, cp5, hv5⟩ := own_shape HII.out.own
      subst hv5
      go_upto_region 9 with fail
      obtain ⟨gt, ct, ft, hveq, hgb, hnc, hcm2, hrowt, hEt⟩ := tt.own_rowE HOUT.out.own HOUT.out.nn
      obtain rfl : at5 = some ⟨gt, 0, none⟩ := by cases hveq; rfl
      obtain rfl : ct = cp5 := by cases hveq; rfl
      clear hveq
      have HET : Hid (tt.EnR wr gt 0 c X) := hEt
      have HROW : Hid (tt.RowE w.heap.size wr (.slice (some ⟨gt, 0, none⟩) c ct) c X) := ⟨gt, ct, ft, rfl, Nat.le_trans hwb hgb, hnc, hcm2, hrowt, hEt⟩
      have HIP : Hid (Calls Tryd.prog 26 #[.slice (some ⟨gt, 0, none⟩) c ct] wr fun e w' => (∃ g c' z, e = .returned (.slice (some ⟨g, 0, none⟩) z c') ∧ tt.Pkd wr w' (tt.pkB X c) g c' z) ∧ Below wr.heap.size wr w') := tt.ipack_any X gt 0 c ct wr hEt HOUT.out.sm (by have := HOUT.out.c5; omega) (HML.out _ HBE.out) (hC X)
      clear hgb hnc hcm2 hrowt hEt
      go_wp2_with (go_at_call 26; refine HIP.out.mono ?_; rintro e w5 ⟨⟨g5, c5, z5, rfl, hz5, hbf5⟩, hl5⟩; have HZ5 : Hid (z5 = (tt.pkB X c).length) := hz5; clear hz5; refine Hid.out ?_)
      refine Lib.hid ?_
      have HB5 : Hid (Below w.heap.size w w5) := HBE.out.trans (hl5.mono HBE.out.size)
      have HEQ : Hid (Calls Tryd.prog 25 #[.slice (some ⟨g5, 0, none⟩) z5 c5, .slice (some ⟨b, 0, none⟩) N N] w5 fun e w' => e = .returned (.bool (decide (tt.pkB X c = l))) ∧ w' = w5) := bytes_eq_any g5 z5 c5 b N N _ _ w5 (bf_by hbf5) (HBY.out w5 HB5.out) HZ5.out HNL.out
      have HROW5 : Hid (tt.RowE w.heap.size w5 (.slice (some ⟨gt, 0, none⟩) c ct) c X) := rowE_below HROW.out hl5
      clear hbf5
      by_cases hpk : tt.pkB X c = l
      · rw [decide_eq_true hpk] at HEQ
        have HR : Hid (UnR w w5 l (.returned (.tuple #[.slice (some ⟨gt, 0, none⟩) c ct, .bool true]))) := unR_yes HROW5.out HOUT.out hpk
        clear hpk
        go_wp2_with (go_at_call 25; refine HEQ.out.mono ?_; rintro e w6 ⟨rfl, hw6⟩; obtain rfl := hw6.symm)
        go_ret2
        exact ⟨HR.out, HB5.out⟩
      · rw [decide_eq_false hpk] at HEQ
        have HR : Hid (UnR w (w5.alloc (.cells #[] 42)) l (.returned (.tuple #[.slice (some ⟨w5.heap.size, 0, none⟩) 0 0, .bool false]))) := unR_no HB5.out HOUT.out hpk
        clear hpk
        go_wp2_with (go_at_call 25; refine HEQ.out.mono ?_; rintro e w6 ⟨rfl, hw6⟩; obtain rfl := hw6.symm)
        go_ret2
        exact ⟨HR.out, HB5.out.alloc HB5.out.size _⟩

end Go.Proofs.YtbpkekdapkkilaaDoor.up
