import Derived.Test.YtihjdggmmmlpkaaDoorPH
namespace Go.Proofs.YtihjdggmmmlpkaaDoor.pf
open Go.ChangeShapes Go.WideShapes Go.ChangeAt Go.RowKit Go.Deep Go.Maps
set_option linter.unusedVariables false
set_option linter.unusedSimpArgs false

/-! ### Profiles: the specification's Rollback -/

theorem sb_no {x : Pr} (h : gIx x.gens x.now < 1) : sb x = (x, false) := by unfold sb; rw [if_pos h]
theorem sb_at {x : Pr} {K : Nat} {y : Gn} (h : gIx x.gens x.now = ((K + 1 : Nat) : Int)) (hy : x.gens[K]? = some y) : sb x = (⟨x.name, y.n, x.gens⟩, true) := by
  unfold sb
  rw [if_neg (by omega), h, Int.toNat_natCast, Nat.add_sub_cancel, hy]
  rfl

set_option maxHeartbeats 4000000 in
set_option maxRecDepth 100000 in
theorem srb_any (lo hi b c : Nat) (gs : Nat → Nat) (ps : List Pr) (q : ByteArray) (w : World) (ho : OwP lo hi w b gs ps) (hw : wtP ps ≤ 1048576) :
    Calls Tryd.prog 53 #[.slice (some ⟨b, 0, none⟩) ps.length c, .string q] w fun e w' => (∃ v, e = .returned (.tuple #[v, .bool (chP sb ps q.data.toList).2]) ∧ ResP w.heap.size w' v (chP sb ps q.data.toList).1) ∧ Below w.heap.size w w' := by
  have hn : ps.length ≤ 1048576 := by have := wt_len ps; omega
  have HO : Hid (∀ W, W = w → Calls Tryd.prog 10 #[.slice (some ⟨b, 0, none⟩) ps.length c] W fun e w' => e = .returned (.bool (psB ps)) ∧ Below w.heap.size w w') := fun W h => by subst h; exact sps_any ps _ c W ho.src hw
  have HCP : Hid (∀ W, Below w.heap.size w W → Calls Tryd.prog 35 #[.slice (some ⟨b, 0, none⟩) ps.length c] W fun e w' => (∃ v, e = .returned v ∧ ResP W.heap.size w' v ps) ∧ Below W.heap.size W w') := fun W hb => l13Copy_any lo hi b c gs ps W (ho.below hb) hw
  have HFI : Hid (∀ W b' c', SrcP W (some ⟨b', 0, none⟩) ps → Calls Tryd.prog 36 #[.slice (some ⟨b', 0, none⟩) ps.length c', .string q] W fun e w' => e = .returned (.int .i64 (fIx ps q.data.toList)) ∧ w' = W) := fun W b' c' hs => l13Find_any ps _ c' q W hs hn
  have HWT : Hid (wtP ps ≤ 1048576) := hw
  clear ho hw
  obtain ⟨n, hnn⟩ : ∃ t, ps.length = t := ⟨_, rfl⟩
  have HNN : Hid (ps.length = n) := hnn
  rw [hnn] at HO HCP HFI hn ⊢
  clear hnn
  cases hv : psB ps with
  | false =>
    rw [hv] at HO
    have HE : Hid (chP sb ps q.data.toList = ([], false)) := chP_bad hv
    rw [HE.out]
    clear hv
    go_enter Tryd.func53, Tryd.ntmps53
    go_wp2_with (go_at_call 10; refine (HO.out _ rfl).mono ?_; rintro e w2 ⟨rfl, hl2⟩)
    go_ret2
    exact ⟨⟨_, rfl, resP_nil hl2.size⟩, hl2.alloc hl2.size _⟩
  | true =>
    rw [hv] at HO
    have HOK : Hid (psB ps = true) := hv
    clear hv
    rcases fIx_cases ps q.data.toList with hf | ⟨i, x, hf, hx⟩
    · have HE : Hid (chP sb ps q.data.toList = (ps, false)) := chP_not HOK.out hf
      rw [hf] at HFI
      rw [HE.out]
      clear hf
      go_enter Tryd.func53, Tryd.ntmps53
      go_wp2_with (first
        | (go_at_call 10; refine (HO.out _ rfl).mono ?_; rintro e w2 ⟨rfl, hl2⟩)
        | (go_at_call 35; refine (HCP.out _ hl2).mono ?_; rintro e w3 ⟨⟨v, rfl, hv⟩, hl3⟩; obtain ⟨b1, c1, gs1, hve, ho3⟩ := hv; rw [HNN.out] at hve; subst hve; have HO3 : Hid (OwP w2.heap.size w3.heap.size w3 b1 gs1 ps) := ho3; clear ho3)
        | (go_at_call 36; refine (HFI.out _ _ _ HO3.out.src).mono ?_; rintro e w4 ⟨rfl, rfl⟩))
      go_ret2
      exact ⟨⟨_, rfl, resP_of (HO3.out.lower hl2.size) (by rw [HNN.out]; rfl)⟩, hl2.trans (hl3.mono hl2.size)⟩
    · have HE : Hid (chP sb ps q.data.toList = (ps.set i (sb x).1, (sb x).2)) := chP_at HOK.out hf hx
      rw [hf] at HFI
      rw [HE.out]
      have hin : i < n := by have := (List.getElem?_eq_some_iff.1 hx).1; have := HNN.out; omega
      have hin' : (i : Int) < (n : Int) := by omega
      have hi0 : (0 : Int) ≤ (i : Int) := by omega
      have hi1 : ¬ (i : Int) < 0 := by omega
      have HX : Hid (ps[i]? = some x) := hx
      have hgl : x.gens.length ≤ 1048576 := by have := wt_gens (List.mem_of_getElem? hx); have := HWT.out; omega
      clear hf hx HE
      go_enter Tryd.func53, Tryd.ntmps53
      go_wp2_with (first
        | (go_at_call 10; refine (HO.out _ rfl).mono ?_; rintro e w2 ⟨rfl, hl2⟩)
        | (go_at_call 35; refine (HCP.out _ hl2).mono ?_; rintro e w3 ⟨⟨v, rfl, hv⟩, hl3⟩; obtain ⟨b1, c1, gs1, hve, ho3⟩ := hv; rw [HNN.out] at hve; subst hve; have HO3 : Hid (OwP w2.heap.size w3.heap.size w3 b1 gs1 ps) := ho3; clear ho3)
        | (go_at_call 36; refine (HFI.out _ _ _ HO3.out.src).mono ?_; rintro e w4 ⟨rfl, rfl⟩; refine Hid.out ?_))
      refine Lib.hid ?_
      have HB4 : Hid (Below w.heap.size w w4) := hl2.trans (hl3.mono hl2.size)
      have hs2 : w.heap.size ≤ w2.heap.size := hl2.size
      obtain ⟨cc, e0, e1, e2, e3, e4⟩ := HO3.out.ent i x HX.out
      have hbl : b1 < w4.heap.size := HO3.out.blk_lt
      have hblo := HO3.out.blo
      have hbhi := HO3.out.bhi
      have HLG : Hid (∀ W, Below w4.heap.size w4 W → Calls Tryd.prog 39 #[.agg #[.string x.name, .int .i64 x.now, .slice (some ⟨gs1 i, 0, none⟩) x.gens.length cc], .int .i64 x.now] W fun e w' => e = .returned (.int .i64 (gIx x.gens x.now)) ∧ Below W.heap.size W w') := fun W hb => l13Gen_any x.name x.now x.now x.gens _ cc W (e4.src.below hb) hgl
      have HCY : Hid (∀ W K y, Below w4.heap.size w4 W → x.gens[K]? = some y → W.cell? ⟨gs1 i, K * 2, none⟩ = some (.int .i64 y.n)) := fun W K y hb hy => by
        rcases e4.src.below hb with h | ⟨b', o', he, hc⟩
        · rw [h] at hy; simp at hy
        · cases he
          have := (hc K y hy).1
          rwa [Nat.zero_add] at this
      have HCC : Hid (∀ W, Below w4.heap.size w4 W → W.cell? ⟨b1, i * 3, none⟩ = some (.string x.name) ∧ W.cell? ⟨b1, i * 3 + 1, none⟩ = some (.int .i64 x.now) ∧ W.cell? ⟨b1, i * 3 + 2, none⟩ = some (.slice (some ⟨gs1 i, 0, none⟩) x.gens.length cc)) := fun W hb => ⟨((bcell hb).1 b1 _ hbl).trans e1, ((bcell hb).1 b1 _ hbl).trans e2, ((bcell hb).1 b1 _ hbl).trans e3⟩
      have HFZ : Hid (∀ W, Below w4.heap.size w4 W → W.frozen? ⟨b1, i * 3 + 1, none⟩ = false) := fun W hb => by
        obtain ⟨N, f, hN, hr⟩ := (HO3.out.below hb).row
        exact hr.frozen _
      have HRES : Hid (∀ W z, Below w4.heap.size w4 W → ResP w.heap.size (W.setCell ⟨b1, i * 3 + 1, none⟩ (.int .i64 z)) (.slice (some ⟨b1, 0, none⟩) n c1) (ps.set i ⟨x.name, z, x.gens⟩) ∧ Below w.heap.size w (W.setCell ⟨b1, i * 3 + 1, none⟩ (.int .i64 z))) := fun W z hb => ⟨resP_of (gs := gs1) (by have := (HO3.out.upd_now (z := z) HX.out hb).lower hs2; simpa using this) (by rw [List.length_set, HNN.out]), (HB4.out.trans (hb.mono HB4.out.size)).setCell (Nat.le_trans hs2 hblo) _⟩
      have HRE0 : Hid (∀ W, Below w4.heap.size w4 W → ResP w.heap.size W (.slice (some ⟨b1, 0, none⟩) n c1) (ps.set i x) ∧ Below w.heap.size w W) := fun W hb => ⟨by rw [set_self HX.out]; exact resP_of (((HO3.out.below hb).lower hs2).upper (Nat.le_trans HO3.out.hi_le hb.size) (Nat.le_refl _)) (by rw [HNN.out]), HB4.out.trans (hb.mono HB4.out.size)⟩
      obtain ⟨A, hA⟩ : ∃ P, x.name = P := ⟨_, rfl⟩
      obtain ⟨z, hz⟩ : ∃ P, x.now = P := ⟨_, rfl⟩
      obtain ⟨m, hm⟩ : ∃ P, x.gens.length = P := ⟨_, rfl⟩
      obtain ⟨G, hG⟩ : ∃ P, gs1 i = P := ⟨_, rfl⟩
      obtain ⟨r, hr⟩ : ∃ P, gIx x.gens x.now = P := ⟨_, rfl⟩
      have HR : Hid (gIx x.gens x.now = r) := hr
      have HM : Hid (x.gens.length = m) := hm
      rw [hr] at HLG
      rw [hA, hz, hm, hG] at HLG HCC
      rw [hG] at HCY
      have HB4d : Hid (Below w4.heap.size w4 w4.drew) := (Below.refl _ _).drew
      have D4 := HCC.out w4 (Below.refl _ _)
      clear hA hz hm hG hr e0 e1 e2 e3 e4 hl2 hl3
      go_wp2_with fail
      go_region_held3 (fun W => W.cell? ⟨b1, i * 3, none⟩ = some (.string A) ∧ W.cell? ⟨b1, i * 3 + 1, none⟩ = some (.int .i64 z) ∧ W.cell? ⟨b1, i * 3 + 2, none⟩ = some (.slice (some ⟨G, 0, none⟩) m cc))
        (first | exact HCC.out _ HB4d.out | exact D4 | exact HCC.out _ hb5 | go_keep)
        (((go_at_call 39; refine (HLG.out _ HB4d.out).mono ?_; rintro e w5 ⟨rfl, hl5⟩; have hb5 : Below w4.heap.size w4 w5 := HB4d.out.trans (hl5.mono HB4d.out.size))))
      obtain ⟨d0, d1, d2⟩ := HCC.out _ hb5
      have HB5 : Hid (Below w4.heap.size w4 w5) := hb5
      clear D4 hl5
      by_cases hr1 : r < 1
      · have HS : Hid (sb x = (x, false)) := sb_no (by rw [HR.out]; exact hr1)
        go_wp2_with fail
        go_ret2
        exact ⟨⟨_, by rw [HS.out]; rfl, by rw [HS.out]; exact (HRE0.out _ hb5).1⟩, (HRE0.out _ hb5).2⟩
      · rcases gIx_cases x.gens x.now with ⟨h1, -⟩ | ⟨k, g, h1, hg, -⟩
        · rw [HR.out] at h1; omega
        obtain ⟨K, hK⟩ : ∃ K, k = K + 1 := ⟨k - 1, by rw [HR.out] at h1; omega⟩
        have hkl := (List.getElem?_eq_some_iff.1 hg).1
        obtain ⟨y, hy⟩ : ∃ y, x.gens[K]? = some y := ⟨_, List.getElem?_eq_getElem (by omega)⟩
        have HS : Hid (sb x = (⟨x.name, y.n, x.gens⟩, true)) := sb_at (by rw [h1, hK]) hy
        have hrk : r = (k : Int) := by rw [← HR.out, h1]
        subst hrk
        have f2 := HCY.out _ K y hb5 hy
        have f4 := HFZ.out _ hb5
        have HFN := HRES.out _ y.n hb5
        obtain ⟨v, hv⟩ : ∃ v, y.n = v := ⟨_, rfl⟩
        have HVV : Hid (y.n = v) := hv
        rw [hv] at f2 HFN
        have HFI2 : Hid (ResP w.heap.size (w5.setCell ⟨b1, i * 3 + 1, none⟩ (.int .i64 v)) (.slice (some ⟨b1, 0, none⟩) n c1) (ps.set i ⟨x.name, v, x.gens⟩) ∧ Below w.heap.size w (w5.setCell ⟨b1, i * 3 + 1, none⟩ (.int .i64 v))) := HFN
        have hkm : K < m := by have := HM.out; omega
        have hkm' : (K : Int) < (m : Int) := by omega
        have hK0 : (0 : Int) ≤ (K : Int) := by omega
        have hK1 : (k : Int) - 1 = (K : Int) := by omega
        have hK3 : IntKind.i64.wrap ((k : Int) - 1) = (K : Int) := by rw [IntKind.wrap_i64]; omega
        have hK4 : IntKind.i64.wrap (K : Int) = (K : Int) := by rw [IntKind.wrap_i64]; omega
        clear hv hy hg h1 hkl hK HFN hb5
        go_wp2
        go_ret2
        exact ⟨⟨_, by rw [HS.out]; rfl, by rw [HS.out, HVV.out]; exact HFI2.out.1⟩, HFI2.out.2⟩

end Go.Proofs.YtihjdggmmmlpkaaDoor.pf
