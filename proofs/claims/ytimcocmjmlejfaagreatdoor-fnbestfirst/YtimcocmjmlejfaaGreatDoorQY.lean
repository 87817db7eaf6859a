import Derived.Test.YtimcocmjmlejfaaGreatDoorQX
namespace Go.Proofs.YtimcocmjmlejfaaGreatDoor.rc
open Go.ChangeShapes Go.WideShapes Go.ChangeAt Go.RowKit Go.Deep Go.Lib Go.Shelf Go.Proofs.YtimcocmjmlejfaaGreatDoor.vr
set_option linter.unusedVariables false
set_option linter.unusedSimpArgs false

/-! ### The program: boundsOf -/

set_option maxHeartbeats 4000000 in
set_option maxRecDepth 100000 in
theorem bounds_any (c : ByteArray) (hc : c.size ≤ 1048576) : BO c := by
  intro w hm
  have HRD : Hid (Calls Tryz.prog 6 #[.string c] w fun e w' => (∃ G cap ls b, (rd c.data.toList = none ∧ ls = [] ∨ rd c.data.toList = some ls) ∧ e = .returned (.tuple #[.slice (some ⟨G, 0, none⟩) ls.length cap, .bool b]) ∧ RdR w' (.slice (some ⟨G, 0, none⟩) ls.length cap) ls) ∧ Below w.heap.size w w') := (iread_any c hc w hm).mono (by
    rintro e w' ⟨⟨ls, v, bb, vs, K, h, rfl, h2⟩, h3⟩
    have hR := h2.read
    obtain ⟨G, cap, rfl, _⟩ := id hR
    refine ⟨⟨G, cap, ls, bb, ?_, rfl, hR⟩, h3⟩
    rcases h with ⟨a, b, _⟩ | ⟨a, _⟩
    · exact .inl ⟨a, b⟩
    · exact .inr a)
  go_enter Tryz.func24, Tryz.ntmps24
  go_wp2_with (go_at_call 6; refine HRD.out.mono ?_; rintro e w1 ⟨⟨G, cap, ls, b, hd, rfl, hR⟩, hl1⟩)
  have HD : Hid (rd c.data.toList = none ∧ ls = [] ∨ rd c.data.toList = some ls) := hd
  have HT : Hid (ls.length ≤ 201 ∧ ∀ l ∈ ls, l.length ≤ 201 ∧ ∀ x ∈ l, x.2.length ≤ 1000) := by
    rcases hd with ⟨_, rfl⟩ | hd
    · exact ⟨by simp, fun l h => by simp at h⟩
    · have := rd_terms hd
      exact ⟨this.1, fun l h => ⟨(this.2 l h).1, fun x hx => ((this.2 l h).2 x hx).1⟩⟩
  have hls := HT.out.1
  have HR2 : Hid (RdR w1 (.slice (some ⟨G, 0, none⟩) ls.length cap) ls) := hR
  have HL1 : Hid (Below w.heap.size w w1) := hl1
  have HB0 : Hid (Below w1.heap.size w1 (w1.alloc (.cells #[] 54))) := (Below.refl _ _).alloc (Nat.le_refl _) _
  have HZ : Hid (BRS w1.heap.size (w1.alloc (.cells #[] 54)) (.slice (some ⟨w1.heap.size, 0, none⟩) 0 0) [] [] (fun _ => False)) := ⟨World.ownsRow_made w1 #[] 0 (Nat.le_refl _) (by decide) rfl, (by intro e; cases e), rfl, fun i l h => by simp at h, fun b h => h.elim⟩
  clear hd hR hl1
  go_loopw [5, 21] (fun r x wr => ∃ (j : Nat) (vs : List Value) (K : Nat → Prop), j ≤ ls.length ∧ x = .int .i64 (j : Int) ∧ BRS w1.heap.size wr r vs (ls.take j) K ∧ Below w1.heap.size w1 wr) (fun _ x _ => ls.length - (intOf x).toNat)
  case atStart => exact ⟨0, [], _, Nat.zero_le _, rfl, HZ.out, HB0.out⟩
  case round =>
    obtain ⟨j, vs, K, hj, rfl, hbrs, hbel⟩ := hrel
    have HBR : Hid (BRS w1.heap.size wr u5 vs (ls.take j) K) := hbrs
    have HBE : Hid (Below w1.heap.size w1 wr) := hbel
    have hvl : vs.length ≤ 1000 := by rw [hbrs.len]; simp; omega
    clear hbrs hbel
    by_cases hjl : j < ls.length
    · have hj' : (j : Int) < (ls.length : Int) := by omega
      have hj0 : (0 : Int) ≤ (j : Int) := by omega
      obtain ⟨x, hx⟩ : ∃ x, ls[j]? = some x := ⟨_, List.getElem?_eq_getElem hjl⟩
      have HTK : Hid (ls.take (j + 1) = ls.take j ++ [x]) := by show _ = _; rw [List.take_add_one, hx]; rfl
      obtain ⟨G', cap', e', hg, hin⟩ := HR2.out
      obtain ⟨rfl, -, -⟩ : G = G' ∧ ls.length = ls.length ∧ cap = cap' := by simpa using e'
      obtain ⟨g, cc, h1, h2⟩ := hin j x hx
      obtain ⟨g', c', e2, hcap2, hcell, hg2⟩ := h2
      obtain ⟨rfl, -, -⟩ : g = g' ∧ x.length = x.length ∧ cc = c' := by simpa using e2
      have d : wr.cell? ⟨G, j, none⟩ = some (.slice (some ⟨g, 0, none⟩) x.length cc) := (HBE.out.cell (p := ⟨G, _, none⟩) hg).trans h1
      have HE : Hid (∀ W, Below w1.heap.size w1 W → ∀ (i : Nat) (y : Tm), x[i]? = some y → W.cell? ⟨g, i * 2, none⟩ = some (.string ⟨y.1.toArray⟩) ∧ W.cell? ⟨g, i * 2 + 1, none⟩ = some (.string ⟨y.2.toArray⟩)) := fun W h i y hy => ⟨(h.cell (p := ⟨g, _, none⟩) hg2).trans (hcell i y hy).1, (h.cell (p := ⟨g, _, none⟩) hg2).trans (hcell i y hy).2⟩
      have hxl := (HT.out.2 x (List.mem_of_getElem? hx)).1
      have HXT : Hid (∀ y ∈ x, y.2.length ≤ 1000) := (HT.out.2 x (List.mem_of_getElem? hx)).2
      clear hin hcell h1 e' e2 hx
      obtain ⟨wo, rfl⟩ : ∃ wo, wo = wr := ⟨_, rfl⟩
      have HBO : Hid (Below wo.heap.size wo (wo.alloc (.cells #[] 81))) := (Below.refl _ _).alloc (Nat.le_refl _) _
      have HZO : Hid (BdS wo.heap.size (wo.alloc (.cells #[] 81)) (.slice (some ⟨wo.heap.size, 0, none⟩) 0 0) [] (fun _ => False)) := ⟨World.ownsRow_made wo #[] 0 (Nat.le_refl _) (by decide) rfl, (by intro e; cases e), fun p h => by simp at h, fun b h => h.elim⟩
      go_wp2_with fail
      go_loopw [8, 28] (fun v x2 wi => ∃ (k : Nat) (ps : List (Tm × Value)) (K2 : Nat → Prop), k ≤ x.length ∧ x2 = .int .i64 (k : Int) ∧ ps.map (·.1) = x.take k ∧ BdS wo.heap.size wi v ps K2 ∧ (∀ b, K2 b → wo.heap.size ≤ b) ∧ Below wo.heap.size wo wi) (fun _ x2 _ => x.length - (intOf x2).toNat)
      case atStart => exact ⟨0, [], _, Nat.zero_le _, rfl, by simp, HZO.out, fun b h => h.elim, HBO.out⟩
      case round =>
        obtain ⟨k, ps, K2, hk, rfl, hps, hbd, hk2, hbel2⟩ := hrel
        have HBD : Hid (BdS wo.heap.size wr u8 ps K2) := hbd
        have HK2 : Hid (∀ b, K2 b → wo.heap.size ≤ b) := hk2
        have HB2 : Hid (Below wo.heap.size wo wr) := hbel2
        have HW : Hid (Below w1.heap.size w1 wr) := HBE.out.trans (hbel2.mono HBE.out.size)
        have hpl : ps.length = k := by have := congrArg List.length hps; simp at this; omega
        have HPL : Hid (ps.length = k) := hpl
        have HPS : Hid (ps.map (·.1) = x.take k) := hps
        have hso := HBE.out.size
        have hsi := hbel2.size
        have hplb : ps.length ≤ 1000 := by omega
        clear hps hbd hk2 hbel2 hpl
        by_cases hkl : k < x.length
        · have hk' : (k : Int) < (x.length : Int) := by omega
          have hk0 : (0 : Int) ≤ (k : Int) := by omega
          obtain ⟨y, hy⟩ : ∃ y, x[k]? = some y := ⟨_, List.getElem?_eq_getElem hkl⟩
          have HY : Hid (x.take (k + 1) = x.take k ++ [y]) := by show _ = _; rw [List.take_add_one, hy]; rfl
          obtain ⟨d0, d1⟩ := HE.out _ HW.out k y hy
          have HVV := versionOf_vs y (HXT.out y (List.mem_of_getElem? hy))
          obtain ⟨P, hP⟩ : ∃ P : ByteArray, (⟨y.1.toArray⟩ : ByteArray) = P := ⟨_, rfl⟩
          obtain ⟨V, hV⟩ : ∃ V : ByteArray, (⟨y.2.toArray⟩ : ByteArray) = V := ⟨_, rfl⟩
          have HBC : Hid (∀ u, bdC (y, u) = [.string P, u]) := fun u => by unfold bdC; rw [← hP]
          rw [hP] at d0
          rw [hV] at d1 HVV
          have HVO : Hid (∀ W, Calls Tryz.prog 35 #[.string V] W fun e w' => ∃ a n c b, e = .returned (.tuple #[.slice a n c, .bool b]) ∧ VsR w' (.slice a n c) (bpt y) (fun bb => W.heap.size ≤ bb ∧ bb < w'.heap.size) ∧ Below W.heap.size W w') := HVV
          clear hP hV hy HVV
          go_wp2_with (first
            | (go_at_call 35; refine (HVO.out _).mono ?_; rintro e w3 ⟨a3, n3, c3, b3, rfl, hvs, hl3⟩; have HO3 : Hid (BdS wo.heap.size w3 u8 ps K2) := (HBD.out.still ((Below.refl _ _).alloc (Nat.le_refl _) _)).still hl3; have HV3 : Hid (VsR w3 (.slice a3 n3 c3) (bpt y) (fun bb => (wr.alloc (.cells #[.string P, .string V] 60)).heap.size ≤ bb ∧ bb < w3.heap.size)) := hvs; have HB3 : Hid (Below wo.heap.size wo w3) := (HB2.out.alloc HB2.out.size _).trans (hl3.mono (by simp; omega)); have q0 : w3.cell? ⟨wr.heap.size, 0, none⟩ = some (.string P) := (hl3.cell (p := ⟨wr.heap.size, 0, none⟩) (by simp)).trans (by simp [go_sem]); have hs3 := hl3.size; clear hvs)
            | (at_builtin; refine app_bound _ rfl _ _ rfl wo.heap.size _ ps rfl (HO3.out.own.alloc _) HO3.out.nn ⟨_, 0, none⟩ (y, .slice a3 n3 c3) rfl rfl (by rw [HBC.out]; exact two_new _ _ _ _) (by omega) (by have := HB3.out.size; simp; omega) ?_; intro v4 w4 hown4 hnn4 hg4 hat4; have HB4 : Hid (Below wo.heap.size wo w4) := below_grownS (HB3.out.alloc HB3.out.size _) (HO3.out.own.alloc _) hg4 (by have := HB3.out.size; simp; omega))
            | go_in)
          go_roundw
          case rel =>
            refine ⟨k + 1, ps ++ [(y, .slice a3 n3 c3)], _, by omega, by go_num, by rw [List.map_append, HPS.out, HY.out]; rfl, HO3.out.more (w0 := wr.alloc (.cells #[.string P, .string V] 60)) (fun b hb => by have := (own_ltT HBD.out.own hb).2; simp; omega) HV3.out _ hown4 hnn4 hg4 hat4, fun b hb => ?_, HB4.out⟩
            rcases hb with hb | hb
            · exact HK2.out b hb
            · have := hb.1
              simp at this
              omega
          case measure => simp [intOf]; omega
        · have hk' : ¬ (k : Int) < (x.length : Int) := by omega
          obtain ⟨g8, c8, rfl, hB8, hlt8, hbk⟩ := HBD.out.done
          have hpx : ps.map (·.1) = x := by rw [HPS.out, List.take_of_length_le (by omega)]
          have hpn : ps.length = x.length := by rw [← hpx]; simp
          rw [hpx, hpn] at hbk
          have HBK : Hid (BdK wr (.slice (some ⟨g8, 0, none⟩) x.length c8) x (fun b => K2 b ∨ b = g8)) := hbk
          have HBW : Hid (BRS w1.heap.size wr u5 vs (ls.take j) K) := HBR.out.still HB2.out
          have HKK : Hid (∀ b, (K2 b ∨ b = g8) → b < wr.heap.size ∧ u5.ownBlock ≠ some b) := fun b hb => by
            have h5 : u5.ownBlock = some b → b < wo.heap.size := fun e => (own_ltT HBR.out.own e).2
            rcases hb with hb | rfl
            · exact ⟨(HBD.out.ks b hb).1, fun e => by have := h5 e; have := HK2.out b hb; omega⟩
            · exact ⟨hlt8, fun e => by have := h5 e; omega⟩
          rw [hpn]
          clear hbk hpx hpn HBD HPS HPL
          go_wp2_with (first
            | (at_builtin; refine app_rowB _ rfl _ _ rfl w1.heap.size _ vs rfl (HBW.out.own.alloc _) HBW.out.nn ⟨_, 0, none⟩ (.slice (some ⟨g8, 0, none⟩) x.length c8) rfl rfl (one_new _ _ _) (by omega) (by simp; omega) ?_; intro v5 w5 hown5 hnn5 hg5 hat5; have HB5 : Hid (Below w1.heap.size w1 w5) := below_grownS (HW.out.alloc HW.out.size _) (HBW.out.own.alloc _) hg5 (by simp; omega))
            | go_in)
          go_roundw
          case rel => exact ⟨j + 1, vs ++ [.slice (some ⟨g8, 0, none⟩) x.length c8], _, by omega, by go_num, by rw [HTK.out]; exact HBW.out.more HBK.out HKK.out _ hown5 hnn5 hg5 hat5, HB5.out⟩
          case measure => simp [intOf]; omega
    · have hj' : ¬ (j : Int) < (ls.length : Int) := by omega
      obtain rfl : j = ls.length := by omega
      go_wp2
      have HF := HBR.out
      rw [List.take_length] at HF
      obtain ⟨G2, cap2, rfl, hrr⟩ := HF.read (fun l h => Nat.le_trans (HT.out.2 l h).1 (by decide))
      go_ret
      exact ⟨⟨G2, cap2, ls, HD.out, rfl, hrr⟩, HL1.out.trans (HBE.out.mono HL1.out.size)⟩

end Go.Proofs.YtimcocmjmlejfaaGreatDoor.rc
