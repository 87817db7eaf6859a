import Derived.Test.YtihjdggmmmlpkaaDoorPP
namespace Go.Proofs.YtihjdggmmmlpkaaDoor.pf
open Go.ChangeShapes Go.WideShapes Go.ChangeAt Go.RowKit Go.Deep Go.Maps
set_option linter.unusedVariables false
set_option linter.unusedSimpArgs false

/-! ### Profiles: Prune, the specification -/

set_option maxHeartbeats 8000000 in
set_option maxRecDepth 100000 in
theorem spr_any (lo hi b c : Nat) (gs : Nat → Nat) (ps : List Pr) (q : ByteArray) (keep : Int) (w : World) (ho : OwP lo hi w b gs ps) (hw : wtP ps ≤ 1048576) (hkr : -9223372036854775808 ≤ keep ∧ keep ≤ 9223372036854775807) :
    Calls Tryd.prog 54 #[.slice (some ⟨b, 0, none⟩) ps.length c, .string q, .int .i64 keep] w fun e w' => (∃ v, e = .returned (.tuple #[v, .bool (chP (ct keep) ps q.data.toList).2]) ∧ ResP w.heap.size w' v (chP (ct keep) ps q.data.toList).1) ∧ Below w.heap.size w w' := by
  have hn : ps.length ≤ 1048576 := by have := wt_len ps; omega
  have HO : Hid (∀ W, W = w → Calls Tryd.prog 10 #[.slice (some ⟨b, 0, none⟩) ps.length c] W fun e w' => e = .returned (.bool (psB ps)) ∧ Below w.heap.size w w') := fun W h => by subst h; exact sps_any ps _ c W ho.src hw
  have HCP : Hid (∀ W, Below w.heap.size w W → Calls Tryd.prog 35 #[.slice (some ⟨b, 0, none⟩) ps.length c] W fun e w' => (∃ v, e = .returned v ∧ ResP W.heap.size w' v ps) ∧ Below W.heap.size W w') := fun W hb => l13Copy_any lo hi b c gs ps W (ho.below hb) hw
  have HFI : Hid (∀ W b' c', SrcP W (some ⟨b', 0, none⟩) ps → Calls Tryd.prog 36 #[.slice (some ⟨b', 0, none⟩) ps.length c', .string q] W fun e w' => e = .returned (.int .i64 (fIx ps q.data.toList)) ∧ w' = W) := fun W b' c' hs => l13Find_any ps _ c' q W hs hn
  have HWT : Hid (wtP ps ≤ 1048576) := hw
  clear ho hw
  obtain ⟨n, hnn⟩ : ∃ t, ps.length = t := ⟨_, rfl⟩
  have HNN : Hid (ps.length = n) := hnn
  rw [hnn] at HO HCP HFI hn ⊢
  clear hnn
  cases hv : psB ps with
  | false =>
    rw [hv] at HO
    have HE : Hid (chP (ct keep) ps q.data.toList = ([], false)) := chP_bad hv
    rw [HE.out]
    clear hv
    go_enter Tryd.func54, Tryd.ntmps54
    go_wp2_with (go_at_call 10; refine (HO.out _ rfl).mono ?_; rintro e w2 ⟨rfl, hl2⟩)
    go_ret2
    exact ⟨⟨_, rfl, resP_nil hl2.size⟩, hl2.alloc hl2.size _⟩
  | true =>
    rw [hv] at HO
    have HOK : Hid (psB ps = true) := hv
    clear hv
    rcases fIx_cases ps q.data.toList with hf | ⟨i, x, hf, hx⟩
    · have HE : Hid (chP (ct keep) ps q.data.toList = (ps, false)) := chP_not HOK.out hf
      rw [hf] at HFI
      rw [HE.out]
      clear hf
      go_enter Tryd.func54, Tryd.ntmps54
      go_wp2_with (first
        | (go_at_call 10; refine (HO.out _ rfl).mono ?_; rintro e w2 ⟨rfl, hl2⟩)
        | (go_at_call 35; refine (HCP.out _ hl2).mono ?_; rintro e w3 ⟨⟨v, rfl, hv⟩, hl3⟩; obtain ⟨b1, c1, gs1, hve, ho3⟩ := hv; rw [HNN.out] at hve; subst hve; have HO3 : Hid (OwP w2.heap.size w3.heap.size w3 b1 gs1 ps) := ho3; clear ho3)
        | (go_at_call 36; refine (HFI.out _ _ _ HO3.out.src).mono ?_; rintro e w4 ⟨rfl, rfl⟩))
      go_ret2
      exact ⟨⟨_, rfl, resP_of (HO3.out.lower hl2.size) (by rw [HNN.out]; rfl)⟩, hl2.trans (hl3.mono hl2.size)⟩
    · have HE : Hid (chP (ct keep) ps q.data.toList = (ps.set i (ct keep x).1, (ct keep x).2)) := chP_at HOK.out hf hx
      rw [hf] at HFI
      rw [HE.out]
      have hin : i < n := by have := (List.getElem?_eq_some_iff.1 hx).1; have := HNN.out; omega
      have hin' : (i : Int) < (n : Int) := by omega
      have hi0 : (0 : Int) ≤ (i : Int) := by omega
      have hi1 : ¬ (i : Int) < 0 := by omega
      have HX : Hid (ps[i]? = some x) := hx
      have hgl : x.gens.length ≤ 1048576 := by have := wt_gens (List.mem_of_getElem? hx); have := HWT.out; omega
      clear hf hx HE
      by_cases hkn : keep < 0
      · have HS : Hid (ct keep x = (x, false)) := ct_no hkn
        rw [HS.out, set_self HX.out]
        go_enter Tryd.func54, Tryd.ntmps54
        go_wp2_with (first
          | (go_at_call 10; refine (HO.out _ rfl).mono ?_; rintro e w2 ⟨rfl, hl2⟩)
          | (go_at_call 35; refine (HCP.out _ hl2).mono ?_; rintro e w3 ⟨⟨v, rfl, hv⟩, hl3⟩; obtain ⟨b1, c1, gs1, hve, ho3⟩ := hv; rw [HNN.out] at hve; subst hve; have HO3 : Hid (OwP w2.heap.size w3.heap.size w3 b1 gs1 ps) := ho3; clear ho3)
          | (go_at_call 36; refine (HFI.out _ _ _ HO3.out.src).mono ?_; rintro e w4 ⟨rfl, rfl⟩))
        go_ret2
        exact ⟨⟨_, rfl, resP_of (HO3.out.lower hl2.size) (by rw [HNN.out]; rfl)⟩, hl2.trans (hl3.mono hl2.size)⟩
      have HS : Hid (ct keep x = (⟨x.name, x.now, kTo keep x.now x.gens x.gens.length⟩, true)) := ct_yes hkn
      rw [HS.out]
      go_enter Tryd.func54, Tryd.ntmps54
      go_wp2_with (first
        | (go_at_call 10; refine (HO.out _ rfl).mono ?_; rintro e w2 ⟨rfl, hl2⟩)
        | (go_at_call 35; refine (HCP.out _ hl2).mono ?_; rintro e w3 ⟨⟨v, rfl, hv⟩, hl3⟩; obtain ⟨b1, c1, gs1, hve, ho3⟩ := hv; rw [HNN.out] at hve; subst hve; have HO3 : Hid (OwP w2.heap.size w3.heap.size w3 b1 gs1 ps) := ho3; clear ho3)
        | (go_at_call 36; refine (HFI.out _ _ _ HO3.out.src).mono ?_; rintro e w4 ⟨rfl, rfl⟩; refine Hid.out ?_))
      refine Lib.hid ?_
      have HB4 : Hid (Below w.heap.size w w4) := hl2.trans (hl3.mono hl2.size)
      have hs2 : w.heap.size ≤ w2.heap.size := hl2.size
      obtain ⟨cc, e0, e1, e2, e3, e4⟩ := HO3.out.ent i x HX.out
      have hbl : b1 < w4.heap.size := HO3.out.blk_lt
      have hblo := HO3.out.blo
      have HUP : Hid (∀ W g vc, Below w4.heap.size w4 W → OwG W g (kTo keep x.now x.gens x.gens.length) → w4.heap.size ≤ g → GC W g (kTo keep x.now x.gens x.gens.length).length vc → ResP w.heap.size (W.setCell ⟨b1, i * 3 + 2, none⟩ (.slice (some ⟨g, 0, none⟩) (kTo keep x.now x.gens x.gens.length).length vc)) (.slice (some ⟨b1, 0, none⟩) n c1) (ps.set i ⟨x.name, x.now, kTo keep x.now x.gens x.gens.length⟩) ∧ Below w.heap.size w (W.setCell ⟨b1, i * 3 + 2, none⟩ (.slice (some ⟨g, 0, none⟩) (kTo keep x.now x.gens x.gens.length).length vc))) := fun W g vc hb hg hl hc => ⟨resP_of ((HO3.out.upd_gens HX.out hb hg hl hc).lower hs2) (by rw [List.length_set, HNN.out]), (HB4.out.trans (hb.mono HB4.out.size)).setCell (Nat.le_trans hs2 hblo) _⟩
      have HFZ : Hid (∀ W, Below w4.heap.size w4 W → W.frozen? ⟨b1, i * 3 + 2, none⟩ = false) := fun W hb => by
        obtain ⟨N, f, hN, hr⟩ := (HO3.out.below hb).row
        exact hr.frozen _
      have HCE : Hid (∀ W, Below w4.heap.size w4 W → W.cell? ⟨b1, i * 3 + 1, none⟩ = some (.int .i64 x.now) ∧ W.cell? ⟨b1, i * 3 + 2, none⟩ = some (.slice (some ⟨gs1 i, 0, none⟩) x.gens.length cc)) := fun W hb => ⟨((bcell hb).1 b1 _ hbl).trans e2, ((bcell hb).1 b1 _ hbl).trans e3⟩
      have HGN : Hid (∀ W (j : Nat) (y : Gn), Below w4.heap.size w4 W → x.gens[j]? = some y → W.cell? ⟨gs1 i, j * 2, none⟩ = some (.int .i64 y.n) ∧ W.cell? ⟨gs1 i, j * 2 + 1, none⟩ = some (.string y.p)) := fun W j y hb hy => by
        rcases e4.src.below hb with h | ⟨b', o', he, hc⟩
        · rw [h] at hy; simp at hy
        · cases he
          have := hc j y hy
          rw [Nat.zero_add] at this
          exact this
      have HPS : Hid (∀ W v, ResP w.heap.size W v (ps.set i ⟨x.name, x.now, kTo keep x.now x.gens x.gens.length⟩) → ResP w.heap.size W v (ps.set i ⟨x.name, x.now, kTo keep x.now x.gens x.gens.length⟩)) := fun W v h => h
      obtain ⟨z, hz⟩ : ∃ P, x.now = P := ⟨_, rfl⟩
      obtain ⟨l, hl⟩ : ∃ P, x.gens = P := ⟨_, rfl⟩
      obtain ⟨A, hA⟩ : ∃ P, x.name = P := ⟨_, rfl⟩
      obtain ⟨G, hG⟩ : ∃ P, gs1 i = P := ⟨_, rfl⟩
      have HXE : Hid (x.now = z ∧ x.gens = l ∧ x.name = A) := ⟨hz, hl, hA⟩
      rw [hz, hl, hA] at HUP
      rw [hz, hl, hG] at HCE
      rw [hl, hG] at HGN
      rw [hl] at hgl
      obtain ⟨m, hm⟩ : ∃ P, l.length = P := ⟨_, rfl⟩
      have HM : Hid (l.length = m) := hm
      rw [hm] at HCE hgl
      have HO0 : Hid ((w4.alloc (.cells #[] 59)).ownsRow w4.heap.size 59 2 (.slice (some ⟨w4.heap.size, 0, none⟩) 0 0) 0 (gnC (kTo keep z l 0))) := own_nil w4 _ _
      clear hz hl hA hG hm e0 e1 e2 e3 e4 HS hl2 hl3 HPS
      go_wp2
      go_loopw [10, 11, 12] (fun v y _ wr => ∃ k : Nat, k ≤ m ∧ y = .int .i64 (k : Int) ∧ v ≠ .slice none 0 0 ∧ wr.ownsRow w4.heap.size 59 2 v (kTo keep z l k).length (gnC (kTo keep z l k)) ∧ Below w4.heap.size w4 wr) (fun _ y _ _ => m - (intOf y).toNat)
      case atStart => exact ⟨0, Nat.zero_le _, rfl, (by intro e; cases e), HO0.out, (Below.refl _ _).alloc (Nat.le_refl _) _⟩
      case round =>
        obtain ⟨k, hk, rfl, hv, hown, hbel⟩ := hrel
        obtain ⟨vb, vc, rfl⟩ := own_some hown hv
        have HBE : Hid (Below w4.heap.size w4 wr) := hbel
        have HOW : Hid (wr.ownsRow w4.heap.size 59 2 (.slice (some ⟨vb, 0, none⟩) (kTo keep z l k).length vc) (kTo keep z l k).length (gnC (kTo keep z l k))) := hown
        have hkl : (kTo keep z l k).length ≤ 1048576 := by have := (kTo_le keep z l k (by have := HM.out; omega)).1; omega
        have f1 := (HCE.out wr hbel).2
        clear hv
        by_cases hlt : k < m
        · have hlt' : (k : Int) < (m : Int) := by omega
          have hk0 : (0 : Int) ≤ (k : Int) := by omega
          obtain ⟨g, hg⟩ : ∃ g, l[k]? = some g := ⟨_, List.getElem?_eq_getElem (by rw [HM.out]; exact hlt)⟩
          obtain ⟨q0, q1⟩ := HGN.out wr k g hbel hg
          have HX2 : Hid (l[k]? = some g) := hg
          obtain ⟨gn, hgn⟩ : ∃ P, g.n = P := ⟨_, rfl⟩
          obtain ⟨gp, hgp⟩ : ∃ P, g.p = P := ⟨_, rfl⟩
          have HGE : Hid (g = ⟨gn, gp⟩) := by show _ = _; rw [← hgn, ← hgp]
          rw [hgn] at q0
          rw [hgp] at q1
          have HSS : Hid ((wr.alloc (.cells #[.int .i64 gn, .string gp] 59)).drew.cell? ⟨wr.heap.size, 0, none⟩ = some (.int .i64 gn) ∧ (wr.alloc (.cells #[.int .i64 gn, .string gp] 59)).drew.cell? ⟨b1, i * 3 + 1, none⟩ = some (.int .i64 z) ∧ (wr.alloc (.cells #[.int .i64 gn, .string gp] 59)).drew.cell? ⟨b1, i * 3 + 2, none⟩ = some (.slice (some ⟨G, 0, none⟩) m cc)) := ⟨by simp [go_sem], HCE.out _ (hbel.alloc hbel.size _).drew⟩
          have HBD : Hid (Below wr.heap.size wr (wr.alloc (.cells #[.int .i64 gn, .string gp] 59)).drew) := ((Below.refl _ _).alloc (Nat.le_refl _) _).drew
          have HOA : Hid (∀ ob, ((wr.alloc (.cells #[.int .i64 gn, .string gp] 59)).drew.alloc ob).ownsRow w4.heap.size 59 2 (.slice (some ⟨vb, 0, none⟩) (kTo keep z l k).length vc) (kTo keep z l k).length (gnC (kTo keep z l k))) := fun ob => own_below HOW.out (HBD.out.alloc HBD.out.size _)
          have HSA : Hid (∀ ob, w4.heap.size ≤ ((wr.alloc (.cells #[.int .i64 gn, .string gp] 59)).drew.alloc ob).heap.size) := fun ob => by have := HBE.out.size; rw [World.size_alloc]; show _ ≤ (wr.alloc _).heap.size + 1; rw [World.size_alloc]; omega
          have HBA : Hid (∀ ob, Below w4.heap.size w4 ((wr.alloc (.cells #[.int .i64 gn, .string gp] 59)).drew.alloc ob)) := fun ob => HBE.out.trans ((HBD.out.alloc HBD.out.size ob).mono HBE.out.size)
          have HNE : Hid (∀ e, ∀ j u, [Value.int .i64 gn, .string gp][j]? = some u → ((wr.alloc (.cells #[.int .i64 gn, .string gp] 59)).drew.alloc (.cells #[.int .i64 gn, .string gp] e)).cell? ((⟨wr.heap.size + 1, 0, none⟩ : Addr).add j) = some u) := fun e => cells_new (wr.alloc (.cells #[.int .i64 gn, .string gp] 59)).drew _ (by show _ = (wr.alloc _).heap.size; rw [World.size_alloc]) e [.int .i64 gn, .string gp]
          clear hgn hgp hg hown hbel
          by_cases he : gn = z
          · have HKY : Hid (kTo keep z l (k + 1) = kTo keep z l k ++ [⟨gn, gp⟩]) := by
              have := kTo_yes (keep := keep) (now := z) HX2.out (.inr (by rw [HGE.out]; exact he))
              rwa [HGE.out] at this
            have heb : (gn == z) = true := by simpa using he
            have hed : decide (gn = z) = true := decide_eq_true he
            clear he
            go_wp2_with fail
            refine wp_region_held_drew (S := fun w' => w'.cell? ⟨wr.heap.size, 0, none⟩ = some (.int .i64 gn) ∧ w'.cell? ⟨b1, i * 3 + 1, none⟩ = some (.int .i64 z) ∧ w'.cell? ⟨b1, i * 3 + 2, none⟩ = some (.slice (some ⟨G, 0, none⟩) m cc)) (by kernel_rfl) (HSS.out) (fun hHeld => ?_)
            refine wpAnyH_take (i := 0) (oi := ⟨some 48, .fieldAddr 59 (.tmp 12) 0, 0, "l13_roots.go:119", #[], none⟩) (v := ?v30) rfl (by kernel_rfl) (by kernel_rfl) (by kernel_rfl) (fun _ _ _ h => h) (Or.inl ⟨by rfl, ?hy30⟩) (by assumption) ?r30
            case hy30 => (intro w hSw; (try dsimp only at hSw); go_simp; try with_reducible rfl)
            try simp only [Act.put, List.setIfInBounds_toArray, List.set_cons_zero, List.set_cons_succ]
            refine wpAnyH_take (i := 1) (oi := ⟨some 49, .load 2 (.tmp 48), 2, "l13_roots.go:119", #[⟨0, .data⟩], none⟩) (v := ?v31) rfl (by kernel_rfl) (by kernel_rfl) (by kernel_rfl) (fun _ _ _ h => h) (Or.inl ⟨by rfl, ?hy31⟩) (by assumption) ?r31
            case hy31 => (intro w hSw; (try dsimp only at hSw); go_simp; try with_reducible rfl)
            try simp only [Act.put, List.setIfInBounds_toArray, List.set_cons_zero, List.set_cons_succ]
            refine wpAnyH_take (i := 2) (oi := ⟨some 50, .move (.tmp 8), 25, "l13_roots.go:119", #[], none⟩) (v := ?v32) rfl (by kernel_rfl) (by kernel_rfl) (by kernel_rfl) (fun _ _ _ h => h) (Or.inl ⟨by rfl, ?hy32⟩) (by assumption) ?r32
            case hy32 => (intro w hSw; (try dsimp only at hSw); go_simp; try with_reducible rfl)
            try simp only [Act.put, List.setIfInBounds_toArray, List.set_cons_zero, List.set_cons_succ]
            refine wpAnyH_take (i := 3) (oi := ⟨some 51, .move (.tmp 9), 3, "l13_roots.go:119", #[], none⟩) (v := ?v33) rfl (by kernel_rfl) (by kernel_rfl) (by kernel_rfl) (fun _ _ _ h => h) (Or.inl ⟨by rfl, ?hy33⟩) (by assumption) ?r33
            case hy33 => (intro w hSw; (try dsimp only at hSw); go_simp; try with_reducible rfl)
            try simp only [Act.put, List.setIfInBounds_toArray, List.set_cons_zero, List.set_cons_succ]
            refine wpAnyH_take (i := 4) (oi := ⟨some 52, .indexAddr 25 (.tmp 50) (.tmp 51), 0, "l13_roots.go:119", #[⟨2, .data⟩, ⟨3, .data⟩], none⟩) (v := ?v34) rfl (by kernel_rfl) (by kernel_rfl) (by kernel_rfl) (fun _ _ _ h => h) (Or.inl ⟨by rfl, ?hy34⟩) (by assumption) ?r34
            case hy34 => (intro w hSw; (try dsimp only at hSw); go_simp; try with_reducible rfl)
            try simp only [Act.put, List.setIfInBounds_toArray, List.set_cons_zero, List.set_cons_succ]
            refine wpAnyH_take (i := 5) (oi := ⟨some 53, .fieldAddr 40 (.tmp 52) 1, 0, "l13_roots.go:119", #[⟨4, .data⟩], none⟩) (v := ?v35) rfl (by kernel_rfl) (by kernel_rfl) (by kernel_rfl) (fun _ _ _ h => h) (Or.inl ⟨by rfl, ?hy35⟩) (by assumption) ?r35
            case hy35 => (intro w hSw; (try dsimp only at hSw); go_simp; try with_reducible rfl)
            try simp only [Act.put, List.setIfInBounds_toArray, List.set_cons_zero, List.set_cons_succ]
            refine wpAnyH_take (i := 6) (oi := ⟨some 54, .load 2 (.tmp 53), 2, "l13_roots.go:119", #[⟨5, .data⟩], none⟩) (v := ?v36) rfl (by kernel_rfl) (by kernel_rfl) (by kernel_rfl) (fun _ _ _ h => h) (Or.inl ⟨by rfl, ?hy36⟩) (by assumption) ?r36
            case hy36 => (intro w hSw; (try dsimp only at hSw); go_simp; try with_reducible rfl)
            try simp only [Act.put, List.setIfInBounds_toArray, List.set_cons_zero, List.set_cons_succ]
            refine wpAnyH_take (i := 7) (oi := ⟨some 55, .binOp .eql 2 (.tmp 49) (.tmp 54) 2, 4, "l13_roots.go:119", #[⟨1, .data⟩, ⟨6, .data⟩], none⟩) (v := ?v37) rfl (by kernel_rfl) (by kernel_rfl) (by kernel_rfl) (fun _ _ _ h => h) (Or.inl ⟨by rfl, ?hy37⟩) (by assumption) ?r37
            case hy37 => (intro w hSw; (try dsimp only at hSw); go_simp; try with_reducible rfl)
            try simp only [Act.put, List.setIfInBounds_toArray, List.set_cons_zero, List.set_cons_succ]
            refine wpAnyH_take (i := 8) (oi := ⟨some 56, .move (.tmp 55), 4, "l13_roots.go:119", #[⟨7, .data⟩], none⟩) (v := ?v38) rfl (by kernel_rfl) (by kernel_rfl) (by kernel_rfl) (fun _ _ _ h => h) (Or.inl ⟨by rfl, ?hy38⟩) (by assumption) ?r38
            case hy38 => (intro w hSw; (try dsimp only at hSw); go_simp; try with_reducible rfl)
            try simp only [Act.put, List.setIfInBounds_toArray, List.set_cons_zero, List.set_cons_succ]
            refine wpAnyH_take (i := 9) (oi := ⟨some 57, .move (.tmp 8), 25, "l13_roots.go:119", #[⟨8, .guard⟩], some (8, false)⟩) (v := undef) rfl (by kernel_rfl) (by kernel_rfl) (by kernel_rfl) (fun _ _ _ h => h) (Or.inr ⟨by rfl, rfl⟩) (by assumption) ?_
            try simp only [Act.put, List.setIfInBounds_toArray, List.set_cons_zero, List.set_cons_succ]
            refine wpAnyH_take (i := 10) (oi := ⟨some 58, .move (.tmp 9), 3, "l13_roots.go:119", #[⟨8, .guard⟩], some (8, false)⟩) (v := undef) rfl (by kernel_rfl) (by kernel_rfl) (by kernel_rfl) (fun _ _ _ h => h) (Or.inr ⟨by rfl, rfl⟩) (by assumption) ?_
            try simp only [Act.put, List.setIfInBounds_toArray, List.set_cons_zero, List.set_cons_succ]
            refine wpAnyH_take (i := 11) (oi := ⟨some 59, .indexAddr 25 (.tmp 57) (.tmp 58), 0, "l13_roots.go:119", #[⟨9, .data⟩, ⟨10, .data⟩, ⟨8, .guard⟩], some (8, false)⟩) (v := undef) rfl (by kernel_rfl) (by kernel_rfl) (by kernel_rfl) (fun _ _ _ h => h) (Or.inr ⟨by rfl, rfl⟩) (by assumption) ?_
            try simp only [Act.put, List.setIfInBounds_toArray, List.set_cons_zero, List.set_cons_succ]
            refine wpAnyH_take (i := 12) (oi := ⟨some 60, .fieldAddr 40 (.tmp 59) 2, 0, "l13_roots.go:119", #[⟨11, .data⟩, ⟨8, .guard⟩], some (8, false)⟩) (v := undef) rfl (by kernel_rfl) (by kernel_rfl) (by kernel_rfl) (fun _ _ _ h => h) (Or.inr ⟨by rfl, rfl⟩) (by assumption) ?_
            try simp only [Act.put, List.setIfInBounds_toArray, List.set_cons_zero, List.set_cons_succ]
            refine wpAnyH_take (i := 13) (oi := ⟨some 61, .load 38 (.tmp 60), 38, "l13_roots.go:119", #[⟨12, .data⟩, ⟨8, .guard⟩], some (8, false)⟩) (v := undef) rfl (by kernel_rfl) (by kernel_rfl) (by kernel_rfl) (fun _ _ _ h => h) (Or.inr ⟨by rfl, rfl⟩) (by assumption) ?_
            try simp only [Act.put, List.setIfInBounds_toArray, List.set_cons_zero, List.set_cons_succ]
            refine wpAnyH_take (i := 14) (oi := ⟨some 62, .call { callee := .builtin .len, args := #[.tmp 61], argTypes := #[38] }, 3, "l13_roots.go:119", #[⟨13, .data⟩, ⟨8, .guard⟩], some (8, false)⟩) (v := undef) rfl (by kernel_rfl) (by kernel_rfl) (by kernel_rfl) (fun _ _ _ h => h) (Or.inr ⟨by rfl, rfl⟩) (by assumption) ?_
            try simp only [Act.put, List.setIfInBounds_toArray, List.set_cons_zero, List.set_cons_succ]
            refine wpAnyH_take (i := 15) (oi := ⟨some 63, .move (.tmp 11), 3, "l13_roots.go:119", #[⟨8, .guard⟩], some (8, false)⟩) (v := undef) rfl (by kernel_rfl) (by kernel_rfl) (by kernel_rfl) (fun _ _ _ h => h) (Or.inr ⟨by rfl, rfl⟩) (by assumption) ?_
            try simp only [Act.put, List.setIfInBounds_toArray, List.set_cons_zero, List.set_cons_succ]
            refine wpAnyH_take (i := 16) (oi := ⟨some 64, .binOp .sub 3 (.tmp 62) (.tmp 63) 3, 3, "l13_roots.go:119", #[⟨14, .data⟩, ⟨15, .data⟩, ⟨8, .guard⟩], some (8, false)⟩) (v := undef) rfl (by kernel_rfl) (by kernel_rfl) (by kernel_rfl) (fun _ _ _ h => h) (Or.inr ⟨by rfl, rfl⟩) (by assumption) ?_
            try simp only [Act.put, List.setIfInBounds_toArray, List.set_cons_zero, List.set_cons_succ]
            refine wpAnyH_take (i := 17) (oi := ⟨some 65, .move (.tmp 2), 2, "l13_roots.go:119", #[⟨8, .guard⟩], some (8, false)⟩) (v := undef) rfl (by kernel_rfl) (by kernel_rfl) (by kernel_rfl) (fun _ _ _ h => h) (Or.inr ⟨by rfl, rfl⟩) (by assumption) ?_
            try simp only [Act.put, List.setIfInBounds_toArray, List.set_cons_zero, List.set_cons_succ]
            refine wpAnyH_take (i := 18) (oi := ⟨some 66, .binOp .leq 2 (.tmp 64) (.tmp 65) 2, 4, "l13_roots.go:119", #[⟨16, .data⟩, ⟨17, .data⟩, ⟨8, .guard⟩], some (8, false)⟩) (v := undef) rfl (by kernel_rfl) (by kernel_rfl) (by kernel_rfl) (fun _ _ _ h => h) (Or.inr ⟨by rfl, rfl⟩) (by assumption) ?_
            try simp only [Act.put, List.setIfInBounds_toArray, List.set_cons_zero, List.set_cons_succ]
            refine wpAnyH_take (i := 19) (oi := ⟨some 67, .pick (.tmp 56) (.const (.bool true)) (.tmp 66), 4, "l13_roots.go:119", #[⟨8, .data⟩, ⟨18, .data⟩], none⟩) (v := ?v39) rfl (by kernel_rfl) (by kernel_rfl) (by kernel_rfl) (fun _ _ _ h => h) (Or.inl ⟨by rfl, ?hy39⟩) (by assumption) ?r39
            case hy39 => (intro w hSw; (try dsimp only at hSw); go_simp; try with_reducible rfl)
            try simp only [Act.put, List.setIfInBounds_toArray, List.set_cons_zero, List.set_cons_succ]
            refine wpAnyH_done (by kernel_rfl) ?_ _
            go_wp2_with (first
              | (at_builtin; refine app_g _ rfl _ _ rfl w4.heap.size (.slice (some ⟨vb, 0, none⟩) (kTo keep z l k).length vc) (kTo keep z l k).length (gnC (kTo keep z l k)) rfl (HOA.out _) (by intro e; cases e) ⟨wr.heap.size + 1, 0, none⟩ 1 1 [.int .i64 gn, .string gp] rfl rfl (HNE.out _) (gnC_one [⟨gn, gp⟩]) (by omega) (HSA.out _) ?_; intro v6 w6 hown6 hv6 hg6; refine Hid.out ?_)
              | go_in)
            refine Lib.hid ?_
            have HO6 : Hid (w6.ownsRow w4.heap.size 59 2 v6 (kTo keep z l (k + 1)).length (gnC (kTo keep z l (k + 1)))) := by
              show World.ownsRow _ _ _ _ _ _ _
              rw [HKY.out, gnC_app, List.length_append]
              exact hown6
            have HB6 : Hid (Below w4.heap.size w4 w6) := below_grownS (HBA.out _) (HOA.out _) hg6 (HSA.out _)
            have HV6 : Hid (v6 ≠ .slice none 0 0) := hv6
            clear hown6 hv6 hg6
            go_wp2
            go_roundw
            case rel => exact ⟨k + 1, by omega, by go_num, HV6.out, HO6.out, HB6.out⟩
            case measure => simp [intOf]; omega
          · have heb : (gn == z) = false := by simpa using he
            have hed : decide (gn = z) = false := decide_eq_false he
            obtain ⟨d, hd1⟩ : ∃ d : Int, (m : Int) - (k : Int) = d := ⟨_, rfl⟩
            have HD1 : Hid ((m : Int) - (k : Int) = d) := hd1
            have hd3 : IntKind.i64.wrap ((m : Int) - (k : Int)) = d := by rw [IntKind.wrap_i64]; omega
            have hd4 : IntKind.i64.wrap d = d := by rw [IntKind.wrap_i64]; omega
            by_cases hc : d ≤ keep
            · have hcd : decide (d ≤ keep) = true := decide_eq_true hc
              have HKY : Hid (kTo keep z l (k + 1) = kTo keep z l k ++ [⟨gn, gp⟩]) := by
                have := kTo_yes (keep := keep) (now := z) HX2.out (.inl (by rw [HM.out]; have := HD1.out; omega))
                rwa [HGE.out] at this
              clear he
              go_wp2_with fail
              refine wp_region_held_drew (S := fun w' => w'.cell? ⟨wr.heap.size, 0, none⟩ = some (.int .i64 gn) ∧ w'.cell? ⟨b1, i * 3 + 1, none⟩ = some (.int .i64 z) ∧ w'.cell? ⟨b1, i * 3 + 2, none⟩ = some (.slice (some ⟨G, 0, none⟩) m cc)) (by kernel_rfl) (HSS.out) (fun hHeld => ?_)
              refine wpAnyH_take (i := 0) (oi := ⟨some 48, .fieldAddr 59 (.tmp 12) 0, 0, "l13_roots.go:119", #[], none⟩) (v := ?v40) rfl (by kernel_rfl) (by kernel_rfl) (by kernel_rfl) (fun _ _ _ h => h) (Or.inl ⟨by rfl, ?hy40⟩) (by assumption) ?r40
              case hy40 => (intro w hSw; (try dsimp only at hSw); go_simp; try with_reducible rfl)
              try simp only [Act.put, List.setIfInBounds_toArray, List.set_cons_zero, List.set_cons_succ]
              refine wpAnyH_take (i := 1) (oi := ⟨some 49, .load 2 (.tmp 48), 2, "l13_roots.go:119", #[⟨0, .data⟩], none⟩) (v := ?v41) rfl (by kernel_rfl) (by kernel_rfl) (by kernel_rfl) (fun _ _ _ h => h) (Or.inl ⟨by rfl, ?hy41⟩) (by assumption) ?r41
              case hy41 => (intro w hSw; (try dsimp only at hSw); go_simp; try with_reducible rfl)
              try simp only [Act.put, List.setIfInBounds_toArray, List.set_cons_zero, List.set_cons_succ]
              refine wpAnyH_take (i := 2) (oi := ⟨some 50, .move (.tmp 8), 25, "l13_roots.go:119", #[], none⟩) (v := ?v42) rfl (by kernel_rfl) (by kernel_rfl) (by kernel_rfl) (fun _ _ _ h => h) (Or.inl ⟨by rfl, ?hy42⟩) (by assumption) ?r42
              case hy42 => (intro w hSw; (try dsimp only at hSw); go_simp; try with_reducible rfl)
              try simp only [Act.put, List.setIfInBounds_toArray, List.set_cons_zero, List.set_cons_succ]
              refine wpAnyH_take (i := 3) (oi := ⟨some 51, .move (.tmp 9), 3, "l13_roots.go:119", #[], none⟩) (v := ?v43) rfl (by kernel_rfl) (by kernel_rfl) (by kernel_rfl) (fun _ _ _ h => h) (Or.inl ⟨by rfl, ?hy43⟩) (by assumption) ?r43
              case hy43 => (intro w hSw; (try dsimp only at hSw); go_simp; try with_reducible rfl)
              try simp only [Act.put, List.setIfInBounds_toArray, List.set_cons_zero, List.set_cons_succ]
              refine wpAnyH_take (i := 4) (oi := ⟨some 52, .indexAddr 25 (.tmp 50) (.tmp 51), 0, "l13_roots.go:119", #[⟨2, .data⟩, ⟨3, .data⟩], none⟩) (v := ?v44) rfl (by kernel_rfl) (by kernel_rfl) (by kernel_rfl) (fun _ _ _ h => h) (Or.inl ⟨by rfl, ?hy44⟩) (by assumption) ?r44
              case hy44 => (intro w hSw; (try dsimp only at hSw); go_simp; try with_reducible rfl)
              try simp only [Act.put, List.setIfInBounds_toArray, List.set_cons_zero, List.set_cons_succ]
              refine wpAnyH_take (i := 5) (oi := ⟨some 53, .fieldAddr 40 (.tmp 52) 1, 0, "l13_roots.go:119", #[⟨4, .data⟩], none⟩) (v := ?v45) rfl (by kernel_rfl) (by kernel_rfl) (by kernel_rfl) (fun _ _ _ h => h) (Or.inl ⟨by rfl, ?hy45⟩) (by assumption) ?r45
              case hy45 => (intro w hSw; (try dsimp only at hSw); go_simp; try with_reducible rfl)
              try simp only [Act.put, List.setIfInBounds_toArray, List.set_cons_zero, List.set_cons_succ]
              refine wpAnyH_take (i := 6) (oi := ⟨some 54, .load 2 (.tmp 53), 2, "l13_roots.go:119", #[⟨5, .data⟩], none⟩) (v := ?v46) rfl (by kernel_rfl) (by kernel_rfl) (by kernel_rfl) (fun _ _ _ h => h) (Or.inl ⟨by rfl, ?hy46⟩) (by assumption) ?r46
              case hy46 => (intro w hSw; (try dsimp only at hSw); go_simp; try with_reducible rfl)
              try simp only [Act.put, List.setIfInBounds_toArray, List.set_cons_zero, List.set_cons_succ]
              refine wpAnyH_take (i := 7) (oi := ⟨some 55, .binOp .eql 2 (.tmp 49) (.tmp 54) 2, 4, "l13_roots.go:119", #[⟨1, .data⟩, ⟨6, .data⟩], none⟩) (v := ?v47) rfl (by kernel_rfl) (by kernel_rfl) (by kernel_rfl) (fun _ _ _ h => h) (Or.inl ⟨by rfl, ?hy47⟩) (by assumption) ?r47
              case hy47 => (intro w hSw; (try dsimp only at hSw); go_simp; try with_reducible rfl)
              try simp only [Act.put, List.setIfInBounds_toArray, List.set_cons_zero, List.set_cons_succ]
              refine wpAnyH_take (i := 8) (oi := ⟨some 56, .move (.tmp 55), 4, "l13_roots.go:119", #[⟨7, .data⟩], none⟩) (v := ?v48) rfl (by kernel_rfl) (by kernel_rfl) (by kernel_rfl) (fun _ _ _ h => h) (Or.inl ⟨by rfl, ?hy48⟩) (by assumption) ?r48
              case hy48 => (intro w hSw; (try dsimp only at hSw); go_simp; try with_reducible rfl)
              try simp only [Act.put, List.setIfInBounds_toArray, List.set_cons_zero, List.set_cons_succ]
              refine wpAnyH_take (i := 9) (oi := ⟨some 57, .move (.tmp 8), 25, "l13_roots.go:119", #[⟨8, .guard⟩], some (8, false)⟩) (v := ?v49) rfl (by kernel_rfl) (by kernel_rfl) (by kernel_rfl) (fun _ _ _ h => h) (Or.inl ⟨by rfl, ?hy49⟩) (by assumption) ?r49
              case hy49 => (intro w hSw; (try dsimp only at hSw); go_simp; try with_reducible rfl)
              try simp only [Act.put, List.setIfInBounds_toArray, List.set_cons_zero, List.set_cons_succ]
              refine wpAnyH_take (i := 10) (oi := ⟨some 58, .move (.tmp 9), 3, "l13_roots.go:119", #[⟨8, .guard⟩], some (8, false)⟩) (v := ?v50) rfl (by kernel_rfl) (by kernel_rfl) (by kernel_rfl) (fun _ _ _ h => h) (Or.inl ⟨by rfl, ?hy50⟩) (by assumption) ?r50
              case hy50 => (intro w hSw; (try dsimp only at hSw); go_simp; try with_reducible rfl)
              try simp only [Act.put, List.setIfInBounds_toArray, List.set_cons_zero, List.set_cons_succ]
              refine wpAnyH_take (i := 11) (oi := ⟨some 59, .indexAddr 25 (.tmp 57) (.tmp 58), 0, "l13_roots.go:119", #[⟨9, .data⟩, ⟨10, .data⟩, ⟨8, .guard⟩], some (8, false)⟩) (v := ?v51) rfl (by kernel_rfl) (by kernel_rfl) (by kernel_rfl) (fun _ _ _ h => h) (Or.inl ⟨by rfl, ?hy51⟩) (by assumption) ?r51
              case hy51 => (intro w hSw; (try dsimp only at hSw); go_simp; try with_reducible rfl)
              try simp only [Act.put, List.setIfInBounds_toArray, List.set_cons_zero, List.set_cons_succ]
              refine wpAnyH_take (i := 12) (oi := ⟨some 60, .fieldAddr 40 (.tmp 59) 2, 0, "l13_roots.go:119", #[⟨11, .data⟩, ⟨8, .guard⟩], some (8, false)⟩) (v := ?v52) rfl (by kernel_rfl) (by kernel_rfl) (by kernel_rfl) (fun _ _ _ h => h) (Or.inl ⟨by rfl, ?hy52⟩) (by assumption) ?r52
              case hy52 => (intro w hSw; (try dsimp only at hSw); go_simp; try with_reducible rfl)
              try simp only [Act.put, List.setIfInBounds_toArray, List.set_cons_zero, List.set_cons_succ]
              refine wpAnyH_take (i := 13) (oi := ⟨some 61, .load 38 (.tmp 60), 38, "l13_roots.go:119", #[⟨12, .data⟩, ⟨8, .guard⟩], some (8, false)⟩) (v := ?v53) rfl (by kernel_rfl) (by kernel_rfl) (by kernel_rfl) (fun _ _ _ h => h) (Or.inl ⟨by rfl, ?hy53⟩) (by assumption) ?r53
              case hy53 => (intro w hSw; (try dsimp only at hSw); go_simp; try with_reducible rfl)
              try simp only [Act.put, List.setIfInBounds_toArray, List.set_cons_zero, List.set_cons_succ]
              refine wpAnyH_take (i := 14) (oi := ⟨some 62, .call { callee := .builtin .len, args := #[.tmp 61], argTypes := #[38] }, 3, "l13_roots.go:119", #[⟨13, .data⟩, ⟨8, .guard⟩], some (8, false)⟩) (v := ?v54) rfl (by kernel_rfl) (by kernel_rfl) (by kernel_rfl) (fun _ _ _ h => h) (Or.inl ⟨by rfl, ?hy54⟩) (by assumption) ?r54
              case hy54 => (intro w hSw; (try dsimp only at hSw); go_simp; try with_reducible rfl)
              try simp only [Act.put, List.setIfInBounds_toArray, List.set_cons_zero, List.set_cons_succ]
              refine wpAnyH_take (i := 15) (oi := ⟨some 63, .move (.tmp 11), 3, "l13_roots.go:119", #[⟨8, .guard⟩], some (8, false)⟩) (v := ?v55) rfl (by kernel_rfl) (by kernel_rfl) (by kernel_rfl) (fun _ _ _ h => h) (Or.inl ⟨by rfl, ?hy55⟩) (by assumption) ?r55
              case hy55 => (intro w hSw; (try dsimp only at hSw); go_simp; try with_reducible rfl)
              try simp only [Act.put, List.setIfInBounds_toArray, List.set_cons_zero, List.set_cons_succ]
              refine wpAnyH_take (i := 16) (oi := ⟨some 64, .binOp .sub 3 (.tmp 62) (.tmp 63) 3, 3, "l13_roots.go:119", #[⟨14, .data⟩, ⟨15, .data⟩, ⟨8, .guard⟩], some (8, false)⟩) (v := ?v56) rfl (by kernel_rfl) (by kernel_rfl) (by kernel_rfl) (fun _ _ _ h => h) (Or.inl ⟨by rfl, ?hy56⟩) (by assumption) ?r56
              case hy56 => (intro w hSw; (try dsimp only at hSw); go_simp; try with_reducible rfl)
              try simp only [Act.put, List.setIfInBounds_toArray, List.set_cons_zero, List.set_cons_succ]
              refine wpAnyH_take (i := 17) (oi := ⟨some 65, .move (.tmp 2), 2, "l13_roots.go:119", #[⟨8, .guard⟩], some (8, false)⟩) (v := ?v57) rfl (by kernel_rfl) (by kernel_rfl) (by kernel_rfl) (fun _ _ _ h => h) (Or.inl ⟨by rfl, ?hy57⟩) (by assumption) ?r57
              case hy57 => (intro w hSw; (try dsimp only at hSw); go_simp; try with_reducible rfl)
              try simp only [Act.put, List.setIfInBounds_toArray, List.set_cons_zero, List.set_cons_succ]
              refine wpAnyH_take (i := 18) (oi := ⟨some 66, .binOp .leq 2 (.tmp 64) (.tmp 65) 2, 4, "l13_roots.go:119", #[⟨16, .data⟩, ⟨17, .data⟩, ⟨8, .guard⟩], some (8, false)⟩) (v := ?v58) rfl (by kernel_rfl) (by kernel_rfl) (by kernel_rfl) (fun _ _ _ h => h) (Or.inl ⟨by rfl, ?hy58⟩) (by assumption) ?r58
              case hy58 => (intro w hSw; (try dsimp only at hSw); go_simp; try with_reducible rfl)
              try simp only [Act.put, List.setIfInBounds_toArray, List.set_cons_zero, List.set_cons_succ]
              refine wpAnyH_take (i := 19) (oi := ⟨some 67, .pick (.tmp 56) (.const (.bool true)) (.tmp 66), 4, "l13_roots.go:119", #[⟨8, .data⟩, ⟨18, .data⟩], none⟩) (v := ?v59) rfl (by kernel_rfl) (by kernel_rfl) (by kernel_rfl) (fun _ _ _ h => h) (Or.inl ⟨by rfl, ?hy59⟩) (by assumption) ?r59
              case hy59 => (intro w hSw; (try dsimp only at hSw); go_simp; try with_reducible rfl)
              try simp only [Act.put, List.setIfInBounds_toArray, List.set_cons_zero, List.set_cons_succ]
              refine wpAnyH_done (by kernel_rfl) ?_ _
              go_wp2_with (first
                | (at_builtin; refine app_g _ rfl _ _ rfl w4.heap.size (.slice (some ⟨vb, 0, none⟩) (kTo keep z l k).length vc) (kTo keep z l k).length (gnC (kTo keep z l k)) rfl (HOA.out _) (by intro e; cases e) ⟨wr.heap.size + 1, 0, none⟩ 1 1 [.int .i64 gn, .string gp] rfl rfl (HNE.out _) (gnC_one [⟨gn, gp⟩]) (by omega) (HSA.out _) ?_; intro v6 w6 hown6 hv6 hg6; refine Hid.out ?_)
                | go_in)
              refine Lib.hid ?_
              have HO6 : Hid (w6.ownsRow w4.heap.size 59 2 v6 (kTo keep z l (k + 1)).length (gnC (kTo keep z l (k + 1)))) := by
                show World.ownsRow _ _ _ _ _ _ _
                rw [HKY.out, gnC_app, List.length_append]
                exact hown6
              have HB6 : Hid (Below w4.heap.size w4 w6) := below_grownS (HBA.out _) (HOA.out _) hg6 (HSA.out _)
              have HV6 : Hid (v6 ≠ .slice none 0 0) := hv6
              clear hown6 hv6 hg6
              go_wp2
              go_roundw
              case rel => exact ⟨k + 1, by omega, by go_num, HV6.out, HO6.out, HB6.out⟩
              case measure => simp [intOf]; omega
            · have hcd : decide (d ≤ keep) = false := decide_eq_false hc
              have HKN : Hid (kTo keep z l (k + 1) = kTo keep z l k) := kTo_no (keep := keep) (now := z) HX2.out (fun h => by
                rcases h with h | h
                · rw [HM.out] at h; have := HD1.out; omega
                · rw [HGE.out] at h; exact he h)
              clear he
              go_wp2_with fail
              refine wp_region_held_drew (S := fun w' => w'.cell? ⟨wr.heap.size, 0, none⟩ = some (.int .i64 gn) ∧ w'.cell? ⟨b1, i * 3 + 1, none⟩ = some (.int .i64 z) ∧ w'.cell? ⟨b1, i * 3 + 2, none⟩ = some (.slice (some ⟨G, 0, none⟩) m cc)) (by kernel_rfl) (HSS.out) (fun hHeld => ?_)
              refine wpAnyH_take (i := 0) (oi := ⟨some 48, .fieldAddr 59 (.tmp 12) 0, 0, "l13_roots.go:119", #[], none⟩) (v := ?v60) rfl (by kernel_rfl) (by kernel_rfl) (by kernel_rfl) (fun _ _ _ h => h) (Or.inl ⟨by rfl, ?hy60⟩) (by assumption) ?r60
              case hy60 => (intro w hSw; (try dsimp only at hSw); go_simp; try with_reducible rfl)
              try simp only [Act.put, List.setIfInBounds_toArray, List.set_cons_zero, List.set_cons_succ]
              refine wpAnyH_take (i := 1) (oi := ⟨some 49, .load 2 (.tmp 48), 2, "l13_roots.go:119", #[⟨0, .data⟩], none⟩) (v := ?v61) rfl (by kernel_rfl) (by kernel_rfl) (by kernel_rfl) (fun _ _ _ h => h) (Or.inl ⟨by rfl, ?hy61⟩) (by assumption) ?r61
              case hy61 => (intro w hSw; (try dsimp only at hSw); go_simp; try with_reducible rfl)
              try simp only [Act.put, List.setIfInBounds_toArray, List.set_cons_zero, List.set_cons_succ]
              refine wpAnyH_take (i := 2) (oi := ⟨some 50, .move (.tmp 8), 25, "l13_roots.go:119", #[], none⟩) (v := ?v62) rfl (by kernel_rfl) (by kernel_rfl) (by kernel_rfl) (fun _ _ _ h => h) (Or.inl ⟨by rfl, ?hy62⟩) (by assumption) ?r62
              case hy62 => (intro w hSw; (try dsimp only at hSw); go_simp; try with_reducible rfl)
              try simp only [Act.put, List.setIfInBounds_toArray, List.set_cons_zero, List.set_cons_succ]
              refine wpAnyH_take (i := 3) (oi := ⟨some 51, .move (.tmp 9), 3, "l13_roots.go:119", #[], none⟩) (v := ?v63) rfl (by kernel_rfl) (by kernel_rfl) (by kernel_rfl) (fun _ _ _ h => h) (Or.inl ⟨by rfl, ?hy63⟩) (by assumption) ?r63
              case hy63 => (intro w hSw; (try dsimp only at hSw); go_simp; try with_reducible rfl)
              try simp only [Act.put, List.setIfInBounds_toArray, List.set_cons_zero, List.set_cons_succ]
              refine wpAnyH_take (i := 4) (oi := ⟨some 52, .indexAddr 25 (.tmp 50) (.tmp 51), 0, "l13_roots.go:119", #[⟨2, .data⟩, ⟨3, .data⟩], none⟩) (v := ?v64) rfl (by kernel_rfl) (by kernel_rfl) (by kernel_rfl) (fun _ _ _ h => h) (Or.inl ⟨by rfl, ?hy64⟩) (by assumption) ?r64
              case hy64 => (intro w hSw; (try dsimp only at hSw); go_simp; try with_reducible rfl)
              try simp only [Act.put, List.setIfInBounds_toArray, List.set_cons_zero, List.set_cons_succ]
              refine wpAnyH_take (i := 5) (oi := ⟨some 53, .fieldAddr 40 (.tmp 52) 1, 0, "l13_roots.go:119", #[⟨4, .data⟩], none⟩) (v := ?v65) rfl (by kernel_rfl) (by kernel_rfl) (by kernel_rfl) (fun _ _ _ h => h) (Or.inl ⟨by rfl, ?hy65⟩) (by assumption) ?r65
              case hy65 => (intro w hSw; (try dsimp only at hSw); go_simp; try with_reducible rfl)
              try simp only [Act.put, List.setIfInBounds_toArray, List.set_cons_zero, List.set_cons_succ]
              refine wpAnyH_take (i := 6) (oi := ⟨some 54, .load 2 (.tmp 53), 2, "l13_roots.go:119", #[⟨5, .data⟩], none⟩) (v := ?v66) rfl (by kernel_rfl) (by kernel_rfl) (by kernel_rfl) (fun _ _ _ h => h) (Or.inl ⟨by rfl, ?hy66⟩) (by assumption) ?r66
              case hy66 => (intro w hSw; (try dsimp only at hSw); go_simp; try with_reducible rfl)
              try simp only [Act.put, List.setIfInBounds_toArray, List.set_cons_zero, List.set_cons_succ]
              refine wpAnyH_take (i := 7) (oi := ⟨some 55, .binOp .eql 2 (.tmp 49) (.tmp 54) 2, 4, "l13_roots.go:119", #[⟨1, .data⟩, ⟨6, .data⟩], none⟩) (v := ?v67) rfl (by kernel_rfl) (by kernel_rfl) (by kernel_rfl) (fun _ _ _ h => h) (Or.inl ⟨by rfl, ?hy67⟩) (by assumption) ?r67
              case hy67 => (intro w hSw; (try dsimp only at hSw); go_simp; try with_reducible rfl)
              try simp only [Act.put, List.setIfInBounds_toArray, List.set_cons_zero, List.set_cons_succ]
              refine wpAnyH_take (i := 8) (oi := ⟨some 56, .move (.tmp 55), 4, "l13_roots.go:119", #[⟨7, .data⟩], none⟩) (v := ?v68) rfl (by kernel_rfl) (by kernel_rfl) (by kernel_rfl) (fun _ _ _ h => h) (Or.inl ⟨by rfl, ?hy68⟩) (by assumption) ?r68
              case hy68 => (intro w hSw; (try dsimp only at hSw); go_simp; try with_reducible rfl)
              try simp only [Act.put, List.setIfInBounds_toArray, List.set_cons_zero, List.set_cons_succ]
              refine wpAnyH_take (i := 9) (oi := ⟨some 57, .move (.tmp 8), 25, "l13_roots.go:119", #[⟨8, .guard⟩], some (8, false)⟩) (v := ?v69) rfl (by kernel_rfl) (by kernel_rfl) (by kernel_rfl) (fun _ _ _ h => h) (Or.inl ⟨by rfl, ?hy69⟩) (by assumption) ?r69
              case hy69 => (intro w hSw; (try dsimp only at hSw); go_simp; try with_reducible rfl)
              try simp only [Act.put, List.setIfInBounds_toArray, List.set_cons_zero, List.set_cons_succ]
              refine wpAnyH_take (i := 10) (oi := ⟨some 58, .move (.tmp 9), 3, "l13_roots.go:119", #[⟨8, .guard⟩], some (8, false)⟩) (v := ?v70) rfl (by kernel_rfl) (by kernel_rfl) (by kernel_rfl) (fun _ _ _ h => h) (Or.inl ⟨by rfl, ?hy70⟩) (by assumption) ?r70
              case hy70 => (intro w hSw; (try dsimp only at hSw); go_simp; try with_reducible rfl)
              try simp only [Act.put, List.setIfInBounds_toArray, List.set_cons_zero, List.set_cons_succ]
              refine wpAnyH_take (i := 11) (oi := ⟨some 59, .indexAddr 25 (.tmp 57) (.tmp 58), 0, "l13_roots.go:119", #[⟨9, .data⟩, ⟨10, .data⟩, ⟨8, .guard⟩], some (8, false)⟩) (v := ?v71) rfl (by kernel_rfl) (by kernel_rfl) (by kernel_rfl) (fun _ _ _ h => h) (Or.inl ⟨by rfl, ?hy71⟩) (by assumption) ?r71
              case hy71 => (intro w hSw; (try dsimp only at hSw); go_simp; try with_reducible rfl)
              try simp only [Act.put, List.setIfInBounds_toArray, List.set_cons_zero, List.set_cons_succ]
              refine wpAnyH_take (i := 12) (oi := ⟨some 60, .fieldAddr 40 (.tmp 59) 2, 0, "l13_roots.go:119", #[⟨11, .data⟩, ⟨8, .guard⟩], some (8, false)⟩) (v := ?v72) rfl (by kernel_rfl) (by kernel_rfl) (by kernel_rfl) (fun _ _ _ h => h) (Or.inl ⟨by rfl, ?hy72⟩) (by assumption) ?r72
              case hy72 => (intro w hSw; (try dsimp only at hSw); go_simp; try with_reducible rfl)
              try simp only [Act.put, List.setIfInBounds_toArray, List.set_cons_zero, List.set_cons_succ]
              refine wpAnyH_take (i := 13) (oi := ⟨some 61, .load 38 (.tmp 60), 38, "l13_roots.go:119", #[⟨12, .data⟩, ⟨8, .guard⟩], some (8, false)⟩) (v := ?v73) rfl (by kernel_rfl) (by kernel_rfl) (by kernel_rfl) (fun _ _ _ h => h) (Or.inl ⟨by rfl, ?hy73⟩) (by assumption) ?r73
              case hy73 => (intro w hSw; (try dsimp only at hSw); go_simp; try with_reducible rfl)
              try simp only [Act.put, List.setIfInBounds_toArray, List.set_cons_zero, List.set_cons_succ]
              refine wpAnyH_take (i := 14) (oi := ⟨some 62, .call { callee := .builtin .len, args := #[.tmp 61], argTypes := #[38] }, 3, "l13_roots.go:119", #[⟨13, .data⟩, ⟨8, .guard⟩], some (8, false)⟩) (v := ?v74) rfl (by kernel_rfl) (by kernel_rfl) (by kernel_rfl) (fun _ _ _ h => h) (Or.inl ⟨by rfl, ?hy74⟩) (by assumption) ?r74
              case hy74 => (intro w hSw; (try dsimp only at hSw); go_simp; try with_reducible rfl)
              try simp only [Act.put, List.setIfInBounds_toArray, List.set_cons_zero, List.set_cons_succ]
              refine wpAnyH_take (i := 15) (oi := ⟨some 63, .move (.tmp 11), 3, "l13_roots.go:119", #[⟨8, .guard⟩], some (8, false)⟩) (v := ?v75) rfl (by kernel_rfl) (by kernel_rfl) (by kernel_rfl) (fun _ _ _ h => h) (Or.inl ⟨by rfl, ?hy75⟩) (by assumption) ?r75
              case hy75 => (intro w hSw; (try dsimp only at hSw); go_simp; try with_reducible rfl)
              try simp only [Act.put, List.setIfInBounds_toArray, List.set_cons_zero, List.set_cons_succ]
              refine wpAnyH_take (i := 16) (oi := ⟨some 64, .binOp .sub 3 (.tmp 62) (.tmp 63) 3, 3, "l13_roots.go:119", #[⟨14, .data⟩, ⟨15, .data⟩, ⟨8, .guard⟩], some (8, false)⟩) (v := ?v76) rfl (by kernel_rfl) (by kernel_rfl) (by kernel_rfl) (fun _ _ _ h => h) (Or.inl ⟨by rfl, ?hy76⟩) (by assumption) ?r76
              case hy76 => (intro w hSw; (try dsimp only at hSw); go_simp; try with_reducible rfl)
              try simp only [Act.put, List.setIfInBounds_toArray, List.set_cons_zero, List.set_cons_succ]
              refine wpAnyH_take (i := 17) (oi := ⟨some 65, .move (.tmp 2), 2, "l13_roots.go:119", #[⟨8, .guard⟩], some (8, false)⟩) (v := ?v77) rfl (by kernel_rfl) (by kernel_rfl) (by kernel_rfl) (fun _ _ _ h => h) (Or.inl ⟨by rfl, ?hy77⟩) (by assumption) ?r77
              case hy77 => (intro w hSw; (try dsimp only at hSw); go_simp; try with_reducible rfl)
              try simp only [Act.put, List.setIfInBounds_toArray, List.set_cons_zero, List.set_cons_succ]
              refine wpAnyH_take (i := 18) (oi := ⟨some 66, .binOp .leq 2 (.tmp 64) (.tmp 65) 2, 4, "l13_roots.go:119", #[⟨16, .data⟩, ⟨17, .data⟩, ⟨8, .guard⟩], some (8, false)⟩) (v := ?v78) rfl (by kernel_rfl) (by kernel_rfl) (by kernel_rfl) (fun _ _ _ h => h) (Or.inl ⟨by rfl, ?hy78⟩) (by assumption) ?r78
              case hy78 => (intro w hSw; (try dsimp only at hSw); go_simp; try with_reducible rfl)
              try simp only [Act.put, List.setIfInBounds_toArray, List.set_cons_zero, List.set_cons_succ]
              refine wpAnyH_take (i := 19) (oi := ⟨some 67, .pick (.tmp 56) (.const (.bool true)) (.tmp 66), 4, "l13_roots.go:119", #[⟨8, .data⟩, ⟨18, .data⟩], none⟩) (v := ?v79) rfl (by kernel_rfl) (by kernel_rfl) (by kernel_rfl) (fun _ _ _ h => h) (Or.inl ⟨by rfl, ?hy79⟩) (by assumption) ?r79
              case hy79 => (intro w hSw; (try dsimp only at hSw); go_simp; try with_reducible rfl)
              try simp only [Act.put, List.setIfInBounds_toArray, List.set_cons_zero, List.set_cons_succ]
              refine wpAnyH_done (by kernel_rfl) ?_ _
              go_wp2_with fail
              go_roundw
              case rel => exact ⟨k + 1, by omega, by go_num, (by intro e; cases e), by rw [HKN.out]; exact own_below HOW.out HBD.out, HBE.out.trans (HBD.out.mono HBE.out.size)⟩
              case measure => simp [intOf]; omega
        · have hlt' : ¬ (k : Int) < (m : Int) := by omega
          obtain rfl : k = m := by omega
          obtain ⟨-, hvc, hvlo, -⟩ := own_cells hown
          have HOG : Hid (OwG wr vb (kTo keep z l l.length)) := by have := own_owG HOW.out rfl; rw [HM.out]; exact this
          have HLL : Hid (l.length = k) := HM.out
          have HFN := HUP.out wr vb vc hbel HOG.out hvlo (by rw [HM.out]; exact own_gc HOW.out rfl)
          have HF2 : Hid (ResP w.heap.size (wr.setCell ⟨b1, i * 3 + 2, none⟩ (.slice (some ⟨vb, 0, none⟩) (kTo keep z l k).length vc)) (.slice (some ⟨b1, 0, none⟩) n c1) (ps.set i ⟨A, z, kTo keep z l l.length⟩) ∧ Below w.heap.size w (wr.setCell ⟨b1, i * 3 + 2, none⟩ (.slice (some ⟨vb, 0, none⟩) (kTo keep z l k).length vc))) := by
            have h := HFN
            rw [show (kTo keep z l l.length).length = (kTo keep z l k).length by rw [HM.out]] at h
            exact h
          have f2 := HFZ.out wr hbel
          clear hown hbel HFN
          go_wp2
          go_ret2
          refine ⟨⟨_, rfl, ?_⟩, HF2.out.2⟩
          obtain ⟨r1, r2, r3⟩ := HXE.out
          rw [r1, r2, r3]
          exact HF2.out.1

end Go.Proofs.YtihjdggmmmlpkaaDoor.pf
