import Derived.Test.YtglbbklikojffaaDoorAH
namespace Go.Proofs.YtglbbklikojffaaDoor.pf
open Go.ChangeShapes Go.WideShapes Go.ChangeAt Go.RowKit Go.Deep Go.Shelf Go.Sort
set_option linter.unusedVariables false
set_option linter.unusedSimpArgs false

/-! ### Roots: the specification -/

theorem fold_len (l o : List (List UInt8)) : (l.foldl sr.fadd o).length ≤ o.length + l.length := sr.foldl_len l o

set_option maxHeartbeats 4000000 in
set_option maxRecDepth 100000 in
theorem l13Roots_any (ps : List Pr) (a : Option Addr) (cap : Nat) (xs : List (List UInt8)) (hx : ∀ x ∈ xs, x.length ≤ 1048576) (xa : Option Addr) (xc : Nat) (w : World) (hR : SrcP w a ps) (hok : PsOk ps) (hX : sr.StrR w (.slice xa xs.length xc) xs) (hxl : xs.length ≤ 2000) :
    Calls Tryd.prog 59 #[.slice a ps.length cap, .slice xa xs.length xc] w fun e w' => (∃ v, e = .returned v ∧ sr.StrR w' v (sr.adr (xs ++ pthP ps))) ∧ Below w.heap.size w w' := by
  have HR : Hid (SrcP w a ps) := hR
  have HOK : Hid (PsOk ps) := hok
  have HXS : Hid (∀ x ∈ xs, x.length ≤ 1048576) := hx
  have HSP : Hid ((xs.filter sr.aokL).foldl sr.fadd ((pthP ps).foldl sr.fadd []) = sr.adr (xs ++ pthP ps)) := rts_spec hok
  have hn : ps.length ≤ 20 := hok.few
  obtain ⟨xb, xo, xc', hxe, _, _, hxcell⟩ := hX
  cases hxe
  have HXC : Hid (∀ i x, xs[i]? = some x → w.cell? ⟨xb, xo + i, none⟩ = some (sr.strL x)) := hxcell
  obtain ⟨n, hnn⟩ : ∃ t, ps.length = t := ⟨_, rfl⟩
  have HNN : Hid (ps.length = n) := hnn
  obtain ⟨N, hNN⟩ : ∃ t, xs.length = t := ⟨_, rfl⟩
  have HXN : Hid (xs.length = N) := hNN
  rw [hnn, hNN]
  rw [hnn] at hn
  rw [hNN] at hxl
  obtain ⟨rs, hrs⟩ : ∃ t, sr.adr (xs ++ pthP ps) = t := ⟨_, rfl⟩
  rw [hrs] at HSP ⊢
  clear hnn hNN hR hok hx hxcell hrs
  go_enter Tryd.func59, Tryd.ntmps59
  go_wp2
  go_loopw [5, 6, 7] (fun v y _ wr => ∃ i : Nat, i ≤ n ∧ y = .int .i64 (i : Int) ∧ sr.StrR wr v ((pthP (ps.take i)).foldl sr.fadd []) ∧ Below w.heap.size w wr) (fun _ y _ _ => n - (intOf y).toNat)
  case atStart => exact ⟨0, Nat.zero_le _, rfl, sr.empty_row w, (Below.refl _ _).alloc (Nat.le_refl _) _⟩
  case round =>
    obtain ⟨i, hi, rfl, hrow, hbel⟩ := hrel
    have HBE : Hid (Below w.heap.size w wr) := hbel
    have HRW : Hid (sr.StrR wr u5 ((pthP (ps.take i)).foldl sr.fadd [])) := hrow
    clear hrow
    by_cases hil : i < n
    · have hil' : (i : Int) < (n : Int) := by omega
      have hi0 : (0 : Int) ≤ (i : Int) := by omega
      obtain ⟨x, hx⟩ : ∃ x, ps[i]? = some x := ⟨_, List.getElem?_eq_getElem (by rw [HNN.out]; exact hil)⟩
      rcases HR.out with h | ⟨b, o, rfl, hc⟩
      · have := HNN.out; rw [h] at this; simp at this; omega
      obtain ⟨u, c, r0, r1, r2, hsg⟩ := hc i x hx
      have HX : Hid (pthP (ps.take (i + 1)) = pthP (ps.take i) ++ pthG x.gens) := pthP_take hx
      have hf50 : x.gens.length ≤ 50 := (HOK.out.each i x hx).few
      have HPL : Hid ((pthP (ps.take i)).length ≤ 1000) := HOK.out.plen i
      have HSG : Hid (∀ W, Below w.heap.size w W → SrcG W u x.gens) := fun W hb => hsg.below hb
      obtain ⟨m, hm⟩ : ∃ t, x.gens.length = t := ⟨_, rfl⟩
      have HM : Hid (x.gens.length = m) := hm
      rw [hm] at r2 hf50
      have HGC : Hid (∀ W, Below w.heap.size w W → W.cell? ⟨b, o + i * 3 + 2, none⟩ = some (.slice u m c)) := fun W hb => (hb.cell (p := ⟨b, _, none⟩) (World.block_lt_of_cell? _ _ r2)).trans r2
      clear hm hx hc hsg hbel r0 r1 r2
      obtain ⟨wo, rfl⟩ : ∃ wo, wo = wr := ⟨_, rfl⟩
      go_wp2
      go_loopw [5, 7] (fun v y wr => ∃ k : Nat, k ≤ m ∧ y = .int .i64 (k : Int) ∧ sr.StrR wr v ((pthP (ps.take i) ++ pthG (x.gens.take k)).foldl sr.fadd []) ∧ Below w.heap.size w wr) (fun _ y _ => m - (intOf y).toNat)
      case atStart => exact ⟨0, Nat.zero_le _, rfl, by simpa [pthG] using HRW.out, HBE.out⟩
      case round =>
        obtain ⟨k, hk, rfl, hrow, hbel⟩ := hrel
        have HBK : Hid (Below w.heap.size w wr) := hbel
        have HRK : Hid (sr.StrR wr u5 ((pthP (ps.take i) ++ pthG (x.gens.take k)).foldl sr.fadd [])) := hrow
        have hll : ((pthP (ps.take i) ++ pthG (x.gens.take k)).foldl sr.fadd []).length ≤ 4000 := by
          have h1 := fold_len (pthP (ps.take i) ++ pthG (x.gens.take k)) []
          rw [List.length_append] at h1
          have := HPL.out
          have h2 : (pthG (x.gens.take k)).length ≤ 50 := by unfold pthG; simp; omega
          simp only [List.length_nil] at h1
          omega
        have g0 := HGC.out _ hbel
        clear hrow
        by_cases hkm : k < m
        · have hkm' : (k : Int) < (m : Int) := by omega
          have hk0 : (0 : Int) ≤ (k : Int) := by omega
          obtain ⟨g, hg⟩ : ∃ g, x.gens[k]? = some g := ⟨_, List.getElem?_eq_getElem (by rw [HM.out]; exact hkm)⟩
          rcases HSG.out _ hbel with h | ⟨gb, go, rfl, hcg⟩
          · have := HM.out; rw [h] at this; simp at this; omega
          obtain ⟨c0, c1⟩ := hcg k g hg
          have HXK : Hid ((pthP (ps.take i) ++ pthG (x.gens.take (k + 1))).foldl sr.fadd [] = sr.fadd ((pthP (ps.take i) ++ pthG (x.gens.take k)).foldl sr.fadd []) g.p.data.toList) := by
            show _ = _
            rw [pthG_take hg, ← List.append_assoc, List.foldl_append]
            rfl
          obtain ⟨gp, hgp⟩ : ∃ t, g.p = t := ⟨_, rfl⟩
          rw [hgp] at c1 HXK
          have HAD : Hid (Calls Tryd.prog 83 #[u5, .string gp] wr fun e w' => ∃ v', e = .returned v' ∧ sr.StrR w' v' (sr.fadd ((pthP (ps.take i) ++ pthG (x.gens.take k)).foldl sr.fadd []) gp.data.toList) ∧ Below wr.heap.size wr w') := sr.sadd_any _ u5 gp wr HRK.out hll
          clear hgp hg hcg hbel c0
          go_wp2_with (go_at_call 83; refine HAD.out.mono ?_; rintro e w6 ⟨v6, rfl, hv6, hl6⟩; have HV6 : Hid (sr.StrR w6 v6 (sr.fadd ((pthP (ps.take i) ++ pthG (x.gens.take k)).foldl sr.fadd []) gp.data.toList)) := hv6; clear hv6)
          go_roundw
          case rel => exact ⟨k + 1, by omega, by go_num, by rw [HXK.out]; exact HV6.out, HBK.out.trans (hl6.mono HBK.out.size)⟩
          case measure => simp [intOf]; omega
        · have hkm' : ¬ (k : Int) < (m : Int) := by omega
          have HO7 : Hid (sr.StrR wr u5 ((pthP (ps.take (i + 1))).foldl sr.fadd [])) := by
            have h := HRK.out
            have e : x.gens.take k = x.gens := List.take_of_length_le (by rw [HM.out]; omega)
            rw [e, ← HX.out] at h
            exact h
          clear hbel
          go_wp2
          go_roundw
          case rel => exact ⟨i + 1, by omega, by go_num, HO7.out, HBK.out⟩
          case measure => simp [intOf]; omega
    · have hil' : ¬ (i : Int) < (n : Int) := by omega
      obtain rfl : i = n := by omega
      have HR0 : Hid (sr.StrR wr u5 (((xs.take 0).filter sr.aokL).foldl sr.fadd ((pthP ps).foldl sr.fadd []))) := by
        have h := HRW.out
        rw [List.take_of_length_le (by rw [HNN.out]; exact Nat.le_refl _)] at h
        show sr.StrR _ _ _
        simpa using h
      have HPL : Hid ((pthP ps).length ≤ 1000) := by have := HOK.out.plen ps.length; rwa [List.take_length] at this
      clear hbel HRW
      obtain ⟨wo, rfl⟩ : ∃ wo, wo = wr := ⟨_, rfl⟩
      go_wp2
      go_loopw [5, 8] (fun v y wr => ∃ k : Nat, k ≤ N ∧ y = .int .i64 (k : Int) ∧ sr.StrR wr v (((xs.take k).filter sr.aokL).foldl sr.fadd ((pthP ps).foldl sr.fadd [])) ∧ Below w.heap.size w wr) (fun _ y _ => N - (intOf y).toNat)
      case atStart => exact ⟨0, Nat.zero_le _, rfl, HR0.out, HBE.out⟩
      case round =>
        obtain ⟨k, hk, rfl, hrow, hbel⟩ := hrel
        have HBK : Hid (Below w.heap.size w wr) := hbel
        have HRK : Hid (sr.StrR wr u5 (((xs.take k).filter sr.aokL).foldl sr.fadd ((pthP ps).foldl sr.fadd []))) := hrow
        have hll : (((xs.take k).filter sr.aokL).foldl sr.fadd ((pthP ps).foldl sr.fadd [])).length ≤ 4000 := by
          have h1 := fold_len ((xs.take k).filter sr.aokL) ((pthP ps).foldl sr.fadd [])
          have h2 := fold_len (pthP ps) []
          have h3 := List.length_filter_le sr.aokL (xs.take k)
          have h4 : (xs.take k).length ≤ 2000 := by simp; omega
          have := HPL.out
          simp only [List.length_nil] at h2
          omega
        clear hrow
        by_cases hkN : k < N
        · have hkN' : (k : Int) < (N : Int) := by omega
          have hk0 : (0 : Int) ≤ (k : Int) := by omega
          obtain ⟨y, hy⟩ : ∃ y, xs[k]? = some y := ⟨_, List.getElem?_eq_getElem (by rw [HXN.out]; exact hkN)⟩
          have c0 := (hbel.cell (p := ⟨xb, _, none⟩) (World.block_lt_of_cell? _ _ (HXC.out k y hy))).trans (HXC.out k y hy)
          have hyl := HXS.out y (List.mem_of_getElem? hy)
          have hst : sr.strL y = .string ⟨y.toArray⟩ := rfl
          rw [hst] at c0
          have HAO : Hid (∀ W, Calls Tryd.prog 34 #[.string ⟨y.toArray⟩] W fun e w' => e = .returned (.bool (sr.aokL y)) ∧ w' = W) := fun W => wd.aspec_any ⟨y.toArray⟩ (by show y.toArray.size ≤ _; simpa using hyl) W
          have HTK : Hid (xs.take (k + 1) = xs.take k ++ [y]) := by show _ = _; rw [List.take_add_one, hy]; rfl
          have HAD0 : Hid (∀ W, sr.StrR W u5 (((xs.take k).filter sr.aokL).foldl sr.fadd ((pthP ps).foldl sr.fadd [])) → Calls Tryd.prog 83 #[u5, .string ⟨y.toArray⟩] W fun e w' => ∃ v', e = .returned v' ∧ sr.StrR w' v' (sr.fadd (((xs.take k).filter sr.aokL).foldl sr.fadd ((pthP ps).foldl sr.fadd [])) y) ∧ Below W.heap.size W w') := fun W h => by
            have := sr.sadd_any _ u5 ⟨y.toArray⟩ W h hll
            simpa using this
          obtain ⟨s, hs⟩ : ∃ s : ByteArray, (⟨y.toArray⟩ : ByteArray) = s := ⟨_, rfl⟩
          rw [hs] at c0 HAO HAD0
          clear hs hst hy hyl hbel
          cases hao : sr.aokL y with
          | true =>
            rw [hao] at HAO
            have HNX : Hid (((xs.take (k + 1)).filter sr.aokL).foldl sr.fadd ((pthP ps).foldl sr.fadd []) = sr.fadd (((xs.take k).filter sr.aokL).foldl sr.fadd ((pthP ps).foldl sr.fadd [])) y) := by
              show _ = _
              rw [HTK.out, List.filter_append, List.foldl_append]
              simp [hao]
            clear hao
            go_wp2_with (first
              | (go_at_call 34; refine (HAO.out _).mono ?_; rintro e w5 ⟨rfl, rfl⟩)
              | (go_at_call 83; refine (HAD0.out _ HRK.out).mono ?_; rintro e w6 ⟨v6, rfl, hv6, hl6⟩; have HV6 : Hid (sr.StrR w6 v6 (sr.fadd (((xs.take k).filter sr.aokL).foldl sr.fadd ((pthP ps).foldl sr.fadd [])) y)) := hv6; clear hv6))
            go_roundw
            case rel => exact ⟨k + 1, by omega, by go_num, by rw [HNX.out]; exact HV6.out, HBK.out.trans (hl6.mono HBK.out.size)⟩
            case measure => simp [intOf]; omega
          | false =>
            rw [hao] at HAO
            have HNX : Hid (((xs.take (k + 1)).filter sr.aokL).foldl sr.fadd ((pthP ps).foldl sr.fadd []) = ((xs.take k).filter sr.aokL).foldl sr.fadd ((pthP ps).foldl sr.fadd [])) := by
              show _ = _
              rw [HTK.out, List.filter_append, List.foldl_append]
              simp [hao]
            clear hao
            go_wp2_with (go_at_call 34; refine (HAO.out _).mono ?_; rintro e w5 ⟨rfl, rfl⟩)
            go_roundw
            case rel => exact ⟨k + 1, by omega, by go_num, by rw [HNX.out]; exact HRK.out, HBK.out⟩
            case measure => simp [intOf]; omega
        · have hkN' : ¬ (k : Int) < (N : Int) := by omega
          have HFN : Hid (sr.StrR wr u5 rs) := by
            have h := HRK.out
            rw [List.take_of_length_le (by rw [HXN.out]; omega), HSP.out] at h
            exact h
          clear hbel
          go_wp2
          go_ret
          exact ⟨⟨_, rfl, HFN.out⟩, HBK.out⟩

set_option maxHeartbeats 2000000 in
set_option maxRecDepth 100000 in
theorem sroots_any (ps : List Pr) (a : Option Addr) (cap : Nat) (xs : List (List UInt8)) (hx : ∀ x ∈ xs, x.length ≤ 1048576) (v : Value) (w : World) (hR : SrcP w a ps) (hw : wtP ps ≤ 1048576) (hX : sr.StrR w v xs) (hxl : xs.length ≤ 1048576) :
    Calls Tryd.prog 25 #[.slice a ps.length cap, v] w fun e w' => (∃ v, e = .returned v ∧ sr.StrR w' v (rts ps xs)) ∧ Below w.heap.size w w' := by
  have HO : Hid (∀ W, W = w → Calls Tryd.prog 10 #[.slice a ps.length cap] W fun e w' => e = .returned (.bool (psB ps)) ∧ Below w.heap.size w w') := fun W h => by subst h; exact sps_any ps a cap W hR hw
  have HXR : Hid (sr.StrR w v xs) := hX
  obtain ⟨xb, xo, xc, rfl, hxc, hxm, hxcell⟩ := hX
  have HRT : Hid (∀ W, Below w.heap.size w W → PsOk ps → xs.length ≤ 2000 → Calls Tryd.prog 59 #[.slice a ps.length cap, .slice (some ⟨xb, xo, none⟩) xs.length xc] W fun e w' => (∃ v, e = .returned v ∧ sr.StrR w' v (sr.adr (xs ++ pthP ps))) ∧ Below W.heap.size W w') := fun W hb ho hl => l13Roots_any ps a cap xs hx _ xc W (hR.below hb) ho (HXR.out.below hb) hl
  clear hR hw hxcell hx
  obtain ⟨n, hnn⟩ : ∃ t, ps.length = t := ⟨_, rfl⟩
  rw [hnn] at HO HRT ⊢
  clear hnn
  cases hv : psB ps with
  | false =>
    rw [hv] at HO
    have HE : Hid (rts ps xs = []) := rts_no (by rw [hv]; simp)
    rw [HE.out]
    clear hv
    go_enter Tryd.func25, Tryd.ntmps25
    go_wp2_with (go_at_call 10; refine (HO.out _ rfl).mono ?_; rintro e w2 ⟨rfl, hl2⟩)
    go_ret
    exact ⟨⟨_, rfl, sr.empty_row w2⟩, hl2.alloc hl2.size _⟩
  | true =>
    rw [hv] at HO
    have HOK : Hid (PsOk ps) := psB_iff.1 hv
    clear hv
    by_cases hx2 : 2000 < xs.length
    · have hx2' : (2000 : Int) < (xs.length : Int) := by omega
      have HE : Hid (rts ps xs = []) := rts_no (by omega)
      rw [HE.out]
      go_enter Tryd.func25, Tryd.ntmps25
      go_wp2_with (go_at_call 10; refine (HO.out _ rfl).mono ?_; rintro e w2 ⟨rfl, hl2⟩)
      go_ret
      exact ⟨⟨_, rfl, sr.empty_row w2⟩, hl2.alloc hl2.size _⟩
    have hx2' : ¬ (2000 : Int) < (xs.length : Int) := by omega
    have HE : Hid (rts ps xs = sr.adr (xs ++ pthP ps)) := rts_yes (psB_yes HOK.out) (by omega)
    rw [HE.out]
    have hxl2 : xs.length ≤ 2000 := by omega
    go_enter Tryd.func25, Tryd.ntmps25
    go_wp2_with (first
      | (go_at_call 10; refine (HO.out _ rfl).mono ?_; rintro e w2 ⟨rfl, hl2⟩)
      | (go_at_call 59; refine (HRT.out _ hl2 HOK.out hxl2).mono ?_; rintro e w3 ⟨⟨v3, rfl, hv3⟩, hl3⟩; have HV3 : Hid (sr.StrR w3 v3 (sr.adr (xs ++ pthP ps))) := hv3; clear hv3))
    go_ret
    exact ⟨⟨_, rfl, HV3.out⟩, hl2.trans (hl3.mono hl2.size)⟩

end Go.Proofs.YtglbbklikojffaaDoor.pf
