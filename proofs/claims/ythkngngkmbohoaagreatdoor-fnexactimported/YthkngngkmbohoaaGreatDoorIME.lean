import Derived.Test.YthkngngkmbohoaaGreatDoorIMD
import Derived.Test.YthkngngkmbohoaaGreatDoorOX
namespace Go.Proofs.YthkngngkmbohoaaGreatDoor.im
open Go.ChangeShapes Go.WideShapes Go.ChangeAt Go.RowKit Go.Deep Go.Shelf Go.Maps Go.Sort
set_option linter.unusedVariables false
set_option linter.unusedSimpArgs false

/-! ### impl.imported, impl.Imported -/

/-- The modules found, in a row of their own. -/
def ImpR (B : Nat) (w : World) (v : Value) (R : List (List UInt8)) : Prop := ∃ zs, RwM B w v zs ∧ zs.map (fun z => z.nm.data.toList) = R

set_option maxRecDepth 100000 in
set_option maxHeartbeats 8000000 in
theorem imported_any (lo lo1 : Nat) (a a1 : Option Addr) (us : List ty.Md) (br : List ByteArray) (w : World) (hb : ty.SrcMd (some lo) w a us) (hU : Us us) (h1 : ty.SrcS (some lo1) w a1 br) (hbl : br.length ≤ 2000) :
    Calls Tryz.prog 20 #[.slice a us.length us.length, .slice a1 br.length br.length] w fun e w' => (∃ v, e = .returned v ∧ ImpR w.heap.size w' v (imA us (txL br))) ∧ Below w.heap.size w w' := by
  have hn1 := hU.few
  have HU := Lib.hid hU
  have HMN : Hid (∀ (q : ByteArray) W, Below w.heap.size w W → Calls Tryz.prog 40 #[.slice a us.length us.length, .string q] W fun e w' => (∃ J : Nat, e = .returned (.tuple #[.int .i64 (J : Int), .bool (decide (uNo us q.data.toList < us.length))]) ∧ J ≤ us.length ∧ (decide (uNo us q.data.toList < us.length) = true → uNo us q.data.toList = J)) ∧ Below W.heap.size W w') := fun q W h => mnum_any a _ us q W (hb.any.below h) hU
  have HIT : Hid (∀ (i : Nat) (u : ty.Md), us[i]? = some u → ∃ b o rb ro c1 a2 c2 a3 c3, a = some ⟨b, o, none⟩ ∧ ∀ W, Below w.heap.size w W → (W.cell? ⟨b, o + i * 4, none⟩ = some (.string u.fName) ∧ W.cell? ⟨b, o + i * 4 + 1, none⟩ = some (.slice (some ⟨rb, ro, none⟩) u.fImports.length c1) ∧ W.cell? ⟨b, o + i * 4 + 2, none⟩ = some (.slice a2 u.fOptions.length c2) ∧ W.cell? ⟨b, o + i * 4 + 3, none⟩ = some (.slice a3 u.fDefs.length c3)) ∧ ∀ (k : Nat) (m : List UInt8), (imL u)[k]? = some m → W.cell? ⟨rb, ro + k, none⟩ = some (sr.strL m)) := fun i u hu => by
    rcases hb with h | ⟨b, o, e, _, hc⟩
    · cases h.1
    obtain ⟨d1, e1, d2, e2, d3, e3, q0, q1, q2, q3, s1, s2, s3⟩ := hc i u hu
    rcases s1 with h | ⟨nb, no, e1', _, hc2⟩
    · cases h.1
    subst e1'
    refine ⟨b, o, nb, no, e1, d2, e2, d3, e3, e, fun W h => ?_⟩
    have k : ∀ {q r v}, w.cell? ⟨q, r, none⟩ = some v → W.cell? ⟨q, r, none⟩ = some v := fun {q r v} h' => (h.cell (p := ⟨q, r, none⟩) (World.block_lt_of_cell? _ _ h')).trans h'
    refine ⟨⟨k q0, k q1, k q2, k q3⟩, fun j m hm => ?_⟩
    unfold imL txL at hm
    rw [List.getElem?_map] at hm
    obtain ⟨z, hz, rfl⟩ := Option.map_eq_some_iff.1 hm
    rw [sr.strL_of]
    exact k (hc2 j z hz)
  have HND : Hid (∀ u ∈ us, u.fImports.length ≤ 20) := hU.nds
  have HXS : Hid (∀ W, Below w.heap.size w W → Calls Tryz.prog 39 #[.slice a1 br.length br.length] W fun e w' => ∃ v', e = .returned v' ∧ sr.OwnS W.heap.size w' v' (txL br) ∧ Below W.heap.size W w') := fun W h => by
    have h2 := (str_row h1 (by omega)).below h
    rw [txL_len] at h2
    exact sr.clone_any (txL br) _ W h2 (by rw [txL_len]; omega)
  have HXL : Hid ((txL br).length ≤ 2000) := by show _ ≤ _; rw [txL_len]; exact hbl
  obtain ⟨xs, hxs⟩ : ∃ xs, txL br = xs := ⟨_, rfl⟩
  rw [hxs] at HXS HXL ⊢
  have HZ0 : Hid (Bf us xs (nmS us []) xs) := Bf.zero us xs fun q ⟨i, hi, _⟩ => by simp at hi
  obtain ⟨m, hm⟩ : ∃ m, br.length = m := ⟨_, rfl⟩
  rw [hm] at HXS ⊢
  obtain ⟨n, hn⟩ : ∃ n, us.length = n := ⟨_, rfl⟩
  have HN : Hid (us.length = n) := hn
  rw [hn] at HMN hn1 ⊢
  clear hb h1 hbl hU hxs hm hn
  obtain ⟨mb, hmb⟩ : ∃ mb, w.heap.size = mb := ⟨_, rfl⟩
  have HMB : Hid (w.heap.size = mb) := hmb
  obtain ⟨W0, hW0⟩ : ∃ W0, W0 = w.alloc (.map #[] 0) := ⟨_, rfl⟩
  have HW0 : Hid (W0 = w.alloc (.map #[] 0)) := hW0
  have HB0 : Hid (Below w.heap.size w W0) := by show Below _ _ _; rw [hW0]; exact (Below.refl _ _).alloc (Nat.le_refl _) _
  have HS0 : Hid (StN W0 mb 0 []) := by show StN _ _ _ _; rw [hW0, ← hmb]; exact StN.zero w
  have HZW : Hid (W0.heap.size = mb + 1) := by show _ = _; rw [hW0, ← hmb]; simp
  have HKY : Hid (∀ W : World, Calls Tryz.prog 44 #[.map (some mb)] W fun e w' => e = .returned (.func (.func 67) #[] #[.pointer (some ⟨W.heap.size, 0, none⟩)]) ∧ w' = W.alloc (.cells #[.map (some mb)] 69)) := fun W => callsIn_wide.1 (Tryz.maps_Keys_44 (some mb) W)
  have HXC := Lib.hid (HXS.out W0 HB0.out)
  rw [hW0] at HXC
  clear HXS hW0
  have hmk : ∀ W : World, (Instr.makeMap 69 none).run Tryz.prog W = .ok (.map (some W.heap.size)) (W.alloc (.map #[] 0)) := fun W => by simp [Instr.makeMap, go_sem]
  go_enter Tryz.func20, Tryz.ntmps20
  go_wp2_with (go_at_call 39; refine HXC.out.mono ?_; rintro e w1 ⟨v1, rfl, hv1, hl1⟩; rw [← HW0.out] at hv1 hl1; refine Hid.out ?_)
  refine Lib.hid ?_
  obtain ⟨g, cap, rfl, hib⟩ := ti.of_own hv1
  have HB1 : Hid (Below w.heap.size w w1) := HB0.out.trans (hl1.mono HB0.out.size)
  have HI1 : Hid (ImS us w.heap.size mb w1 g 0 cap xs []) := ⟨hib.mono HB0.out.size, HS0.out.below hl1, by have := hib.new; rw [HZW.out] at this; omega⟩
  clear hv1 hl1 hib HXC
  go_wp2
  try rw [HMB.out]
  go_loopg [6, 7, 8] (n * 21 + 2000) (fun q v _ _ wr => ∃ (g o cap : Nat) (Wk : List (List UInt8)) (F : List Nat), v = .slice (some ⟨g, o, none⟩) Wk.length cap ∧ ImS us w.heap.size mb wr g o cap Wk F ∧ Bf us xs (nmS us F) Wk ∧ F.Nodup ∧ (∀ x ∈ F, x < n) ∧ (n - F.length) * 21 + Wk.length ≤ q ∧ Wk.length ≤ 2000 + F.length * 20 ∧ Below w.heap.size w wr)
  case atStart => exact ⟨g, 0, cap, xs, [], rfl, HI1.out, HZ0.out, List.nodup_nil, fun x hx => by simp at hx, by have := HXL.out; simp; omega, by have := HXL.out; simp; omega, HB1.out⟩
  case round =>
    obtain ⟨g, o, cap, Wk, F, rfl, hfs, hbf, hnd, hlt, hms, hlw, hbel⟩ := hrel
    have HFL := Lib.hid hfs
    have HBF := Lib.hid hbf
    have HBE := Lib.hid hbel
    have HNF := Lib.hid hnd
    have HLT := Lib.hid hlt
    have hFl : F.length ≤ n := nodup_lt hnd hlt
    have hcm : cap ≤ 9223372036854775807 := Nat.le_trans hfs.ib.max (by unfold maxLen; omega)
    have hcl := hfs.ib.le
    clear hfs hbf hnd hlt
    cases Wk with
    | nil =>
      clear hbel
      have HLM : Hid (∀ x, x ∈ imN us xs ↔ x ∈ F) := fun x => by
        rw [imN_mem, ← HBF.out.done]
        constructor
        · rintro ⟨hx, i, hi, e⟩
          have hi2 := HLT.out i hi
          rw [HN.out] at hx
          have e1 := nAt_some (List.getElem?_eq_getElem (show i < us.length by rw [HN.out]; exact hi2))
          have e2 := nAt_some (List.getElem?_eq_getElem (show x < us.length by rw [HN.out]; exact hx))
          rw [e1, e2] at e
          obtain rfl := HU.out.one (List.getElem?_eq_getElem _) (List.getElem?_eq_getElem _) e
          exact hi
        · intro hx
          exact ⟨by rw [HN.out]; exact HLT.out x hx, x, hx, rfl⟩
      have HLB : Hid (∀ x ∈ imN us xs, x < n) := fun x hx => by rw [← HN.out]; exact (imN_mem.1 hx).1
      have HLL : Hid ((imN us xs).length ≤ 100) := by show _ ≤ _; have := imN_len us xs; rw [HN.out] at this; omega
      have HLA : Hid ((imN us xs).map (nAt us) = imA us xs) := rfl
      have HLS : Hid ((imN us xs).Pairwise (· < ·)) := imN_asc us xs
      obtain ⟨L, hL⟩ : ∃ L, imN us xs = L := ⟨_, rfl⟩
      rw [hL] at HLM HLB HLL HLA HLS
      clear hL
      obtain ⟨W7, hW7⟩ : ∃ W7, W7 = wr.alloc (.cells #[] 45) := ⟨_, rfl⟩
      have HW7 : Hid (W7 = wr.alloc (.cells #[] 45)) := hW7
      have HL7 : Hid (Below wr.heap.size wr W7) := by show Below _ _ _; rw [hW7]; exact (Below.refl _ _).alloc (Nat.le_refl _) _
      have HR7 : Hid (RwM w.heap.size W7 (.slice (some ⟨wr.heap.size, 0, none⟩) 0 0) []) := by show RwM _ _ _ _; rw [hW7]; exact (rwm_nil wr).mono HBE.out.size
      have HZ7 : Hid (W7.heap.size = wr.heap.size + 1) := by show _ = _; rw [hW7]; simp
      have HB7 := Lib.hid (HBE.out.trans (HL7.out.mono HBE.out.size))
      have HSD := Lib.hid (sortedN_any mb F.length F L W7 (HFL.out.st.below HL7.out) HLS.out HLM.out (by omega))
      clear hW7
      go_wp2_with (go_at_call 44; refine (HKY.out _).mono ?_; rintro e w8 ⟨rfl, rfl⟩; rw [← HW7.out]; refine Hid.out ?_)
      refine Lib.hid ?_
      go_wp2_with (go_at_call 43; refine HSD.out.mono ?_; rintro e w9 ⟨⟨v9, rfl, hv9⟩, hl9⟩; refine Hid.out ?_)
      refine Lib.hid ?_
      obtain ⟨gs, hgs, ad, c9, rfl, hrd⟩ := rdg_own hv9
      have HB9 : Hid (Below w.heap.size w w9) := (HB7.out.alloc HB7.out.size _).trans (hl9.mono (by have := HB7.out.size; omega))
      have HL9 : Hid (Below W7.heap.size W7 w9) := ((Below.refl _ _).alloc (Nat.le_refl _) _).trans (hl9.mono (by omega))
      have HR9 : Hid (RwM w.heap.size w9 (.slice (some ⟨wr.heap.size, 0, none⟩) 0 0) []) := HR7.out.below HL9.out
      have HD9 : Hid ((Value.slice (some ⟨wr.heap.size, 0, none⟩) 0 0).ownBlock ≠ some gs) := fun e => by have : wr.heap.size = gs := Option.some.inj e; have := HZ7.out; omega
      have HRD : Hid (∀ (i x : Nat), L[i]? = some x → ad = some ⟨gs, 0, none⟩ ∧ w9.cell? ⟨gs, i, none⟩ = some (.int .i64 (x : Int))) := hrd
      clear hv9 hl9 HSD hrd
      obtain ⟨nl, hnl⟩ : ∃ nl, L.length = nl := ⟨_, rfl⟩
      have HNL : Hid (L.length = nl) := hnl
      rw [hnl] at HLL ⊢
      clear hnl
      have hnl : nl ≤ 100 := HLL.out
      go_wp2
      go_loopw [9, 11, 50] (fun v _ y wx => ∃ (k : Nat) (zs : List Mz), k ≤ nl ∧ y = .int .i64 (k : Int) ∧ RwM w.heap.size wx v zs ∧ zs.map (fun z => z.nm.data.toList) = (L.take k).map (nAt us) ∧ v.ownBlock ≠ some gs ∧ (∀ (i x : Nat), L[i]? = some x → wx.cell? ⟨gs, i, none⟩ = some (.int .i64 (x : Int))) ∧ Below w.heap.size w wx) (fun _ _ y _ => nl - (intOf y).toNat)
      case atStart => exact ⟨0, [], Nat.zero_le _, rfl, HR9.out, by simp, HD9.out, fun i x hx => (HRD.out i x hx).2, HB9.out⟩
      case round =>
        obtain ⟨k, zs, hk, rfl, hrw, hzm, hvg, hcs, hbx⟩ := hrel
        have HRW := Lib.hid hrw
        have HZM := Lib.hid hzm
        have HVG := Lib.hid hvg
        have HCS := Lib.hid hcs
        have HBX := Lib.hid hbx
        have HZL : Hid (zs.length = k) := by
          show _ = _
          have := congrArg List.length hzm
          rw [List.length_map, List.length_map, List.length_take, HNL.out] at this
          omega
        clear hrw hzm hvg
        by_cases hkl : k < nl
        · have hkl' : (k : Int) < (nl : Int) := by omega
          have hk0 : (0 : Int) ≤ (k : Int) := by omega
          obtain ⟨x, hx⟩ : ∃ x, L[k]? = some x := ⟨_, List.getElem?_eq_getElem (by rw [HNL.out]; exact hkl)⟩
          obtain ⟨rfl, _⟩ := HRD.out k x hx
          have c0 := hcs k x hx
          have hgl : gs < wr.heap.size := World.block_lt_of_cell? _ _ c0
          have hxn : x < n := HLB.out x (List.mem_of_getElem? hx)
          have hxi : (x : Int) < (n : Int) := by omega
          have hx0 : (0 : Int) ≤ (x : Int) := by omega
          obtain ⟨u, hu⟩ : ∃ u, us[x]? = some u := ⟨_, List.getElem?_eq_getElem (by rw [HN.out]; exact hxn)⟩
          obtain ⟨b, ob, rb, ro, c1, a2, c2, a3, c3, rfl, hcn⟩ := HIT.out x u hu
          obtain ⟨⟨q0, q1, q2, q3⟩, _⟩ := hcn wr hbx
          have HTK : Hid ((L.take (k + 1)).map (nAt us) = (L.take k).map (nAt us) ++ [u.fName.data.toList]) := by
            show _ = _
            rw [List.take_add_one, hx, Option.toList_some, List.map_append, List.map_singleton, nAt_some hu]
            rfl
          generalize u.fName = P at *
          generalize u.fImports.length = z1 at *
          generalize u.fOptions.length = z2 at *
          generalize u.fDefs.length = z3 at *
          obtain ⟨WA, hWA⟩ : ∃ WA, WA = wr.alloc (.cells #[.string P, .slice (some ⟨rb, ro, none⟩) z1 c1, .slice a2 z2 c2, .slice a3 z3 c3] 45) := ⟨_, rfl⟩
          have HWA : Hid (WA = wr.alloc (.cells #[.string P, .slice (some ⟨rb, ro, none⟩) z1 c1, .slice a2 z2 c2, .slice a3 z3 c3] 45)) := hWA
          have HAB : Hid (Below wr.heap.size wr WA) := by show Below _ _ _; rw [hWA]; exact (Below.refl _ _).alloc (Nat.le_refl _) _
          have HZA : Hid (WA.heap.size = wr.heap.size + 1) := by show _ = _; rw [hWA]; simp
          have HRA := Lib.hid (HRW.out.below HAB.out)
          have HBA := Lib.hid (HBX.out.trans (HAB.out.mono HBX.out.size))
          have HNW : Hid (∀ j v, (mzC ⟨P, some ⟨rb, ro, none⟩, z1, c1, a2, z2, c2, a3, z3, c3⟩)[j]? = some v → WA.cell? ((⟨wr.heap.size, 0, none⟩ : Addr).add j) = some v) := by
            show ∀ j v, _ → _
            rw [hWA]
            exact cells_newI wr wr.heap.size rfl _ _
          clear hcn hx hu hbx hcs hWA
          go_wp2_with (at_builtin; rw [← HWA.out]; refine app_md _ rfl _ _ rfl w.heap.size _ zs rfl HRA.out ⟨wr.heap.size, 0, none⟩ 1 ⟨P, some ⟨rb, ro, none⟩, z1, c1, a2, z2, c2, a3, z3, c3⟩ rfl HNW.out (by have := HZL.out; omega) (by have := HBA.out.size; omega) ?_; intro v3 w3 hr3 hg3 hat3; refine Hid.out ?_)
          refine Lib.hid ?_
          have HR3 := Lib.hid hr3
          have HM3 : Hid ((zs ++ [Mz.mk P (some ⟨rb, ro, none⟩) z1 c1 a2 z2 c2 a3 z3 c3]).map (fun z => z.nm.data.toList) = (L.take (k + 1)).map (nAt us)) := by
            show _ = _
            rw [HTK.out, List.map_append, HZM.out]
            rfl
          have HV3 : Hid (v3.ownBlock ≠ some gs) := fun e => by
            rcases hat3 with h | h
            · rw [h] at e; exact HVG.out e
            · rw [h] at e
              have : WA.heap.size = gs := Option.some.inj e
              have := HZA.out
              omega
          have HC3 : Hid (∀ (i x : Nat), L[i]? = some x → w3.cell? ⟨gs, i, none⟩ = some (.int .i64 (x : Int))) := fun i x hx => by
            have h0 := HCS.out i x hx
            have h1 := (HAB.out.cell (p := ⟨gs, i, none⟩) hgl).trans h0
            rw [← h1]
            exact World.cell?_of_block (a := ⟨gs, i, none⟩) (hg3.block gs (by have := HZA.out; omega) (fun e => HVG.out e.symm))
          have HB3 : Hid (Below w.heap.size w w3) := HBA.out.grown hg3 HBA.out.size (fun j hj => (HRA.out.own.lt j hj).1)
          clear hr3 hg3 hat3
          go_wp2
          go_roundw
          case rel => exact ⟨k + 1, _, by omega, by go_num, HR3.out, HM3.out, HV3.out, HC3.out, HB3.out⟩
          case measure => simp [intOf]; omega
        · have hkl' : ¬ (k : Int) < (nl : Int) := by omega
          obtain rfl : k = nl := by omega
          have HE : Hid (zs.map (fun z => z.nm.data.toList) = imA us xs) := by
            have h := HZM.out
            rw [List.take_of_length_le (by rw [HNL.out]; exact Nat.le_refl _)] at h
            exact h.trans HLA.out
          clear hbx hcs
          go_wp2
          go_ret
          have k1 := HRW.out
          have k2 := HBX.out
          rw [HMB.out] at k1 k2
          exact ⟨⟨_, rfl, zs, k1, HE.out⟩, k2⟩
    | cons p Wk =>
      have hst : sr.strL p = .string ⟨p.toArray⟩ := rfl
      obtain ⟨t, ht⟩ : ∃ t : ByteArray, (⟨p.toArray⟩ : ByteArray) = t := ⟨_, rfl⟩
      have HTP : Hid (t.data.toList = p) := by show _ = _; rw [← ht]
      have cw : wr.cell? ⟨g, o, none⟩ = some (.string t) := by
        have := HFL.out.ib.cells 0 (by simp)
        rw [← ht, ← hst]
        simpa using this
      have HMM : Hid (∀ x, x ∈ p :: Wk ↔ x = p ∨ x ∈ Wk) := fun x => List.mem_cons
      have HNT := Lib.hid (HMN.out t wr hbel)
      rw [HTP.out] at HNT
      obtain ⟨q, hq⟩ : ∃ q, Wk.length = q := ⟨_, rfl⟩
      have HQ : Hid (Wk.length = q) := hq
      rw [List.length_cons, hq] at hms hlw hcl ⊢
      have hq1 : (0 : Int) < (q : Int) + 1 := by omega
      have hq2 : (1 : Int) ≤ (q : Int) + 1 := by omega
      have hq3 : (q : Int) + 1 ≤ (cap : Int) := by omega
      have hc1 : (1 : Int) ≤ (cap : Int) := by omega
      have HMS : Hid ((n - F.length) * 21 + (q + 1) ≤ gk) := hms
      have HLW : Hid (q + 1 ≤ 2000 + F.length * 20) := hlw
      clear hbel hq hms hlw hst ht
      by_cases hth : uNo us p < n
      rotate_left
      · have HBS : Hid (Bf us xs (nmS us F) Wk) := HBF.out.skip HMM.out fun h => absurd h (there_no (by have := uNo_le us p; rw [HN.out] at this ⊢; omega))
        rw [decide_eq_false hth] at HNT
        clear hth
        go_wp2_with (go_at_call 40; refine HNT.out.mono ?_; rintro e w2 ⟨⟨J, rfl, hJ, _⟩, hl2⟩; refine Hid.out ?_)
        refine Lib.hid ?_
        obtain ⟨o2, ho2, hf2⟩ := (HFL.out.below hl2).tail
        have HF2 := Lib.hid hf2
        have HB2 := Lib.hid (HBE.out.trans (hl2.mono HBE.out.size))
        clear hf2 hl2
        go_wp2
        try rw [ho2]
        go_roundg ((n - F.length) * 21 + q)
        case measure => have := HMS.out; omega
        case rel => exact ⟨g, o2, cap - 1, Wk, F, by rw [HQ.out] <;> first | rfl | simp, HF2.out, HBS.out, HNF.out, HLT.out, by rw [HQ.out]; exact Nat.le_refl _, by rw [HQ.out]; have := HLW.out; omega, HB2.out⟩
      · rw [decide_eq_true hth] at HNT
        obtain ⟨x, hxx⟩ : ∃ x, uNo us p = x := ⟨_, rfl⟩
        obtain ⟨u, hu, hue⟩ := uNo_get (us := us) (m := p) (by rw [HN.out]; exact hth)
        rw [hxx] at HNT hth hu
        have HAT : Hid (nAt us x = p) := (nAt_some hu).trans hue
        have HHS : Hid (∀ W, Below wr.heap.size wr W → Calls Tryz.prog 41 #[.map (some mb), .int .i64 (x : Int)] W fun e w' => e = .returned (.bool (decide (x ∈ F))) ∧ Below W.heap.size W w') := fun W h => hasN_any x (by omega) mb F.length F W (HFL.out.st.below h)
        clear hxx
        by_cases hxF : x ∈ F
        · have HBS : Hid (Bf us xs (nmS us F) Wk) := HBF.out.skip HMM.out fun _ => ⟨x, hxF, HAT.out⟩
          rw [decide_eq_true hxF] at HHS
          clear hxF hu hue
          go_wp2_with (first
            | (go_at_call 40; refine HNT.out.mono ?_; rintro e w2 ⟨⟨J, rfl, hJ, hJx⟩, hl2⟩; obtain rfl := hJx rfl)
            | (go_at_call 41; refine (HHS.out _ hl2).mono ?_; rintro e w3 ⟨rfl, hl3⟩; refine Hid.out ?_))
          refine Lib.hid ?_
          have HL3 : Hid (Below wr.heap.size wr w3) := hl2.trans (hl3.mono hl2.size)
          obtain ⟨o2, ho2, hf2⟩ := (HFL.out.below HL3.out).tail
          have HF2 := Lib.hid hf2
          have HB2 := Lib.hid (HBE.out.trans (HL3.out.mono HBE.out.size))
          clear hf2 hl2 hl3
          go_wp2
          try rw [ho2]
          go_roundg ((n - F.length) * 21 + q)
          case measure => have := HMS.out; omega
          case rel => exact ⟨g, o2, cap - 1, Wk, F, by rw [HQ.out] <;> first | rfl | simp, HF2.out, HBS.out, HNF.out, HLT.out, by rw [HQ.out]; exact Nat.le_refl _, by rw [HQ.out]; have := HLW.out; omega, HB2.out⟩
        · have HBM : Hid (Bf us xs (nmS us (F ++ [x])) (Wk ++ imL u)) := HBF.out.take HU.out HMM.out (List.mem_of_getElem? hu) hue (fun r => by
            constructor
            · rintro ⟨i, hi, e⟩
              rcases List.mem_append.1 hi with hi | hi
              · exact .inl ⟨i, hi, e⟩
              · obtain rfl := List.mem_singleton.1 hi
                exact .inr (e.symm.trans HAT.out)
            · rintro (⟨i, hi, e⟩ | rfl)
              · exact ⟨i, List.mem_append_left _ hi, e⟩
              · exact ⟨x, by simp, HAT.out⟩) (fun r => List.mem_append)
          have HNF2 : Hid ((F ++ [x]).Nodup) := by
            refine List.nodup_append.2 ⟨HNF.out, by simp, fun y hy z hz => ?_⟩
            obtain rfl := List.mem_singleton.1 hz
            intro e
            exact hxF (e ▸ hy)
          have HLT2 : Hid (∀ y ∈ F ++ [x], y < n) := fun y hy => by
            rcases List.mem_append.1 hy with hy | hy
            · exact HLT.out y hy
            · rw [List.mem_singleton.1 hy]; exact hth
          have HFM : Hid (F.length + 1 ≤ n) := by
            show _ ≤ _
            have h := nodup_lt HNF2.out HLT2.out
            rwa [List.length_append, List.length_singleton] at h
          rw [decide_eq_false hxF] at HHS
          have HAD : Hid (∀ W, Below wr.heap.size wr W → Calls Tryz.prog 42 #[.map (some mb), .int .i64 (x : Int)] W fun e w' => (∃ v, e = .returned v) ∧ StN w' mb (F.length + 1) (F ++ [x]) ∧ W.grownBy w' (some mb)) := fun W h => addN_any x (by omega) mb F.length (by omega) F W (HFL.out.st.below h)
          obtain ⟨b, ob, rb, ro, c1, a2, c2, a3, c3, rfl, hcn⟩ := HIT.out x u hu
          have HCN := Lib.hid hcn
          have HIL : Hid ((imL u).length = u.fImports.length) := by show _ = _; unfold imL; rw [txL_len]
          have hml : u.fImports.length ≤ 20 := HND.out u (List.mem_of_getElem? hu)
          have hxi : (x : Int) < (n : Int) := by omega
          have hx0 : (0 : Int) ≤ (x : Int) := by omega
          clear hxF hu hue hcn
          obtain ⟨m2, hm2⟩ : ∃ m, u.fImports.length = m := ⟨_, rfl⟩
          have HM2 : Hid (u.fImports.length = m2) := hm2
          rw [hm2] at HIL hml
          clear hm2
          go_wp2_with (first
            | (go_at_call 40; refine HNT.out.mono ?_; rintro e w2 ⟨⟨J, rfl, hJ, hJx⟩, hl2⟩; obtain rfl := hJx rfl)
            | (go_at_call 41; refine (HHS.out _ hl2).mono ?_; rintro e w3 ⟨rfl, hl3⟩; refine Hid.out ?_))
          refine Lib.hid ?_
          have HL3 : Hid (Below wr.heap.size wr w3) := hl2.trans (hl3.mono hl2.size)
          have HA3 := Lib.hid (HAD.out w3 HL3.out)
          have HF3 := Lib.hid (HFL.out.below HL3.out)
          have HB3 := Lib.hid (HBE.out.trans (HL3.out.mono HBE.out.size))
          clear hl2 hl3 HAD HHS HNT cw
          go_wp2_with (go_at_call 42; refine HA3.out.mono ?_; rintro e w4 ⟨⟨v4, rfl⟩, hs4, hg4⟩; refine Hid.out ?_)
          refine Lib.hid ?_
          have HF4 : Hid (ImS us w.heap.size mb w4 g o cap (p :: Wk) (F ++ [x])) := HF3.out.add (by rw [List.length_append, List.length_singleton]; exact hs4) hg4
          have HB4 : Hid (Below w.heap.size w w4) := HB3.out.grown hg4 HB3.out.size (fun k hk => by have := Option.some.inj hk; have := HMB.out; omega)
          clear hs4 hg4 HA3
          obtain ⟨⟨_, q1, _, _⟩, hrc⟩ := HCN.out w4 HB4.out
          rw [HM2.out] at q1
          have HNE : Hid (∀ j v, (ti.nV (imL u))[j]? = some v → w4.cell? ((⟨rb, ro, none⟩ : Addr).add j) = some v) := sr.row_news hrc
          obtain ⟨r7, hr7⟩ : ∃ r, q + m2 = r := ⟨_, rfl⟩
          have HR7 : Hid (q + 1 + m2 = r7 + 1) := by show _ = _; omega
          clear hrc
          go_wp2_with (at_builtin; refine app_wk (base := w.heap.size) (l := p :: Wk) (m := imL u) (ad := ⟨rb, ro, none⟩) (c := c1) (g := g) (of := o) (cap := cap) (nl := q + 1) (nm := m2) (R := r7 + 1) rfl _ _ rfl (by rw [List.length_cons, HQ.out]) HIL.out HR7.out rfl rfl HF4.out.ib HB4.out.size HNE.out (by have := HLW.out; omega) ?_; intro g6 o6 cap6 w6 hA6; refine Hid.out ?_)
          refine Lib.hid ?_
          have HF6 := Lib.hid (HF4.out.app hA6)
          have HB6 := Lib.hid (HB4.out.trans (hA6.bel HF4.out.ib.new HB4.out.size))
          obtain ⟨o7, ho7, hf7⟩ := HF6.out.tail
          have hl6 := HF6.out.ib.le
          have HLQ : Hid ((p :: Wk ++ imL u).length = r7 + 1) := by show _ = _; rw [List.length_append, List.length_cons, HQ.out, HIL.out]; omega
          rw [HLQ.out] at hl6
          have HF7 := Lib.hid hf7
          have HQ7 : Hid ((Wk ++ imL u).length = r7) := by show _ = _; rw [List.length_append, HQ.out, HIL.out]; omega
          have hcm6 : cap6 ≤ 9223372036854775807 := Nat.le_trans HF6.out.ib.max (by unfold maxLen; omega)
          have hd1 : (1 : Int) ≤ (r7 : Int) + 1 := by omega
          have hd2 : (r7 : Int) + 1 ≤ (cap6 : Int) := by omega
          have hd3 : (1 : Int) ≤ (cap6 : Int) := by omega
          have HR8 : Hid (q + m2 = r7) := hr7
          clear hA6 hf7 hl6 q1 hr7
          go_wp2
          try rw [ho7]
          go_roundg ((n - (F.length + 1)) * 21 + r7)
          case measure => have := HMS.out; have := HFM.out; have := HR8.out; omega
          case rel => exact ⟨g6, o7, cap6 - 1, Wk ++ imL u, F ++ [x], by rw [HQ7.out] <;> first | rfl | simp, HF7.out, HBM.out, HNF2.out, HLT2.out, by rw [HQ7.out, List.length_append, List.length_singleton]; exact Nat.le_refl _, by rw [HQ7.out, List.length_append, List.length_singleton]; have := HLW.out; have := HR8.out; omega, HB6.out⟩

set_option maxRecDepth 100000 in
set_option maxHeartbeats 8000000 in
theorem iimp_any (lo lo1 : Nat) (a a1 : Option Addr) (us : List ty.Md) (br : List ByteArray) (w : World) (hb : ty.SrcMd (some lo) w a us) (hw : ty.wtMd us ≤ 1048576) (h1 : ty.SrcS (some lo1) w a1 br) (hw1 : ty.wtS br ≤ 1048576) (hM : op.ML w) :
    Calls Tryz.prog 9 #[.slice a us.length us.length, .slice a1 br.length br.length] w fun e w' => (∃ v, e = .returned v ∧ sr.OwnS w.heap.size w' v (impA us br)) ∧ Below w.heap.size w w' := by
  have hbl : br.length ≤ 1048576 := by have := ty.wtS_len br; omega
  have HCI : Hid (Calls Tryz.prog 19 #[.slice a us.length us.length, .slice a1 br.length br.length] w fun e w' => e = .returned (.bool (decide (op.msB us = true ∧ br.length ≤ 2000))) ∧ Below w.heap.size w w') := by
    have HUO : Hid (∀ W, W = w → Calls Tryz.prog 38 #[.slice a us.length us.length] W fun e w' => e = .returned (.bool (op.msB us)) ∧ Below W.heap.size W w') := fun W h => by subst h; exact op.imods_any a _ us W hb.any hw hM
    show Calls _ _ _ _ _
    clear hb hw h1 hw1 hM
    generalize us.length = n at *
    generalize br.length = m at *
    cases hu : op.msB us with
    | false =>
      rw [hu] at HUO
      clear hu
      go_enter Tryz.func19, Tryz.ntmps19
      go_wp2_with (go_at_call 38; refine (HUO.out _ rfl).mono ?_; rintro e w1 ⟨rfl, hl1⟩)
      go_ret
      first | exact ⟨by simp, hl1⟩ | exact ⟨rfl, hl1⟩
    | true =>
      rw [hu] at HUO
      clear hu
      go_enter Tryz.func19, Tryz.ntmps19
      go_wp2_with (go_at_call 38; refine (HUO.out _ rfl).mono ?_; rintro e w1 ⟨rfl, hl1⟩)
      go_ret
      first | exact ⟨by congr 3; simp; omega, hl1⟩ | exact ⟨by simp; omega, hl1⟩ | exact ⟨by simp, hl1⟩
  have HEM : Hid (∀ W : World, Below w.heap.size w W → sr.OwnS w.heap.size (W.alloc (.cells #[] 9)) (.slice (some ⟨W.heap.size, 0, none⟩) 0 0) []) := fun W h => (nil_row W).mono h.size
  by_cases hok : op.msB us = true ∧ br.length ≤ 2000
  rotate_left
  · have HA : Hid (impA us br = []) := by show _ = _; unfold impA; rw [if_neg hok]
    rw [HA.out]
    rw [decide_eq_false hok] at HCI
    clear HA hok hb hw h1 hw1 hM hbl
    generalize us.length = n at *
    generalize br.length = m at *
    go_enter Tryz.func9, Tryz.ntmps9
    go_wp2_with (go_at_call 19; refine HCI.out.mono ?_; rintro e w1 ⟨rfl, hl1⟩)
    go_ret
    exact ⟨⟨_, rfl, HEM.out w1 hl1⟩, hl1.alloc hl1.size _⟩
  have HA : Hid (impA us br = imA us (txL br)) := by show _ = _; unfold impA; rw [if_pos hok]
  rw [HA.out]
  rw [decide_eq_true hok] at HCI
  have hU := us_of hok.1
  have HIM : Hid (∀ W, Below w.heap.size w W → Calls Tryz.prog 20 #[.slice a us.length us.length, .slice a1 br.length br.length] W fun e w' => (∃ v, e = .returned v ∧ ImpR W.heap.size w' v (imA us (txL br))) ∧ Below W.heap.size W w') := fun W h => imported_any lo lo1 a a1 us br W (hb.below h) hU (h1.below h) hok.2
  have HSZ : Hid (∀ q ∈ imA us (txL br), q.length ≤ 1048576) := fun q hq => by
    obtain ⟨u, hu, rfl⟩ := (imA_mem.1 hq).there
    have := ty.wtMd_mem hu
    unfold ty.wt1Md at this
    show u.fName.data.toList.length ≤ _
    have h2 : u.fName.data.toList.length = u.fName.size := by rw [Array.length_toList]; rfl
    omega
  have HRL : Hid ((imA us (txL br)).length ≤ 100) := by show _ ≤ _; unfold imA; rw [List.length_map]; exact Nat.le_trans (imN_len us _) hU.few
  clear hb hw h1 hw1 hbl hok HA hU hM
  generalize imA us (txL br) = R at *
  generalize us.length = n at *
  generalize br.length = m at *
  have HZ : Hid (∀ W : World, Below w.heap.size w W → sr.OwnS w.heap.size (W.alloc (.cells #[] 9)) (.slice (some ⟨W.heap.size, 0, none⟩) 0 0) []) := HEM
  go_enter Tryz.func9, Tryz.ntmps9
  go_wp2_with (go_at_call 19; refine HCI.out.mono ?_; rintro e w1 ⟨rfl, hl1⟩; refine Hid.out ?_)
  refine Lib.hid ?_
  obtain ⟨W2, hW2⟩ : ∃ W2, W2 = w1.alloc (.cells #[] 9) := ⟨_, rfl⟩
  have HW2 : Hid (W2 = w1.alloc (.cells #[] 9)) := hW2
  have HB2 : Hid (Below w.heap.size w W2) := by show Below _ _ _; rw [hW2]; exact hl1.alloc hl1.size _
  have HO2 : Hid (sr.OwnS w.heap.size W2 (.slice (some ⟨w1.heap.size, 0, none⟩) 0 0) []) := by show sr.OwnS _ _ _ _; rw [hW2]; exact HEM.out w1 hl1
  have HZ2 : Hid (W2.heap.size = w1.heap.size + 1) := by show _ = _; rw [hW2]; simp
  have HI2 := Lib.hid (HIM.out W2 HB2.out)
  rw [hW2] at HI2
  clear hl1 hW2 HCI HIM HEM HZ
  go_wp2_with (go_at_call 20; refine HI2.out.mono ?_; rw [← HW2.out]; rintro e w3 ⟨⟨v3, rfl, zs, hrw, hzm⟩, hl3⟩; refine Hid.out ?_)
  refine Lib.hid ?_
  obtain ⟨gm, cm, rfl, hgm, hcz⟩ := hrw.shape
  have HCZ := Lib.hid hcz
  have HZM := Lib.hid hzm
  have HZL : Hid (zs.length = R.length) := by show _ = _; rw [← hzm, List.length_map]
  have HB3 := Lib.hid (HB2.out.trans (hl3.mono HB2.out.size))
  have HO3 : Hid (sr.OwnS w.heap.size w3 (.slice (some ⟨w1.heap.size, 0, none⟩) 0 0) []) := own_bel HO2.out hl3
  have HD3 : Hid ((Value.slice (some ⟨w1.heap.size, 0, none⟩) 0 0).ownBlock ≠ some gm) := fun e => by have : w1.heap.size = gm := Option.some.inj e; have := HZ2.out; omega
  obtain ⟨nl, hnl⟩ : ∃ nl, zs.length = nl := ⟨_, rfl⟩
  have HNL : Hid (zs.length = nl) := hnl
  have hn1 : nl ≤ 100 := by rw [← hnl, HZL.out]; exact HRL.out
  rw [hnl]
  clear hrw hcz hzm hl3 hnl HI2
  go_wp2
  go_loopw [5, 7, 18] (fun v _ y wx => ∃ k : Nat, k ≤ nl ∧ y = .int .i64 (k : Int) ∧ sr.OwnS w.heap.size wx v (R.take k) ∧ v.ownBlock ≠ some gm ∧ wx.heap[gm]? = w3.heap[gm]? ∧ Below w.heap.size w wx) (fun _ _ y _ => nl - (intOf y).toNat)
  case atStart => exact ⟨0, Nat.zero_le _, rfl, HO3.out, HD3.out, rfl, HB3.out⟩
  case round =>
    obtain ⟨k, hk, rfl, hown, hvg, hgb, hbx⟩ := hrel
    have HOW := Lib.hid hown
    have HVG := Lib.hid hvg
    have HGB := Lib.hid hgb
    have HBX := Lib.hid hbx
    clear hown hvg
    by_cases hkl : k < nl
    · have hkl' : (k : Int) < (nl : Int) := by omega
      have hk0 : (0 : Int) ≤ (k : Int) := by omega
      obtain ⟨z, hz⟩ : ∃ z, zs[k]? = some z := ⟨_, List.getElem?_eq_getElem (by rw [HNL.out]; exact hkl)⟩
      obtain ⟨p0, p1, p2, p3⟩ := HCZ.out k z hz
      have kk : ∀ {r v}, w3.cell? ⟨gm, r, none⟩ = some v → wr.cell? ⟨gm, r, none⟩ = some v := fun {r v} h => (World.cell?_of_block (a := ⟨gm, r, none⟩) hgb).trans h
      have c0 := kk p0
      have c1 := kk p1
      have c2 := kk p2
      have c3 := kk p3
      have hgl : gm < wr.heap.size := World.block_lt_of_cell? _ _ c0
      have HTK : Hid (R.take (k + 1) = R.take k ++ [z.nm.data.toList]) := by
        show _ = _
        rw [← HZM.out, List.take_add_one, List.getElem?_map, hz]
        rfl
      have hsz : z.nm.size ≤ 1048576 := by
        have h : z.nm.data.toList ∈ R := by rw [← HZM.out]; exact List.mem_map.2 ⟨z, List.mem_of_getElem? hz, rfl⟩
        have h2 := HSZ.out _ h
        have h3 : z.nm.data.toList.length = z.nm.size := by rw [Array.length_toList]; rfl
        omega
      have HLK : Hid ((R.take k).length ≤ 100) := by show _ ≤ _; rw [List.length_take]; have := HRL.out; omega
      have HCL := Lib.hid (fun W : World => cl.clone_any z.nm W (by omega))
      obtain ⟨P, y1, m1, d1, y2, m2, d2, y3, m3, d3⟩ := z
      dsimp only at c0 c1 c2 c3 HTK HCL
      obtain ⟨WA, hWA⟩ : ∃ WA, WA = wr.alloc (.cells #[.string P, .slice y1 m1 d1, .slice y2 m2 d2, .slice y3 m3 d3] 45) := ⟨_, rfl⟩
      have HWA : Hid (WA = wr.alloc (.cells #[.string P, .slice y1 m1 d1, .slice y2 m2 d2, .slice y3 m3 d3] 45)) := hWA
      have HAB : Hid (Below wr.heap.size wr WA) := by show Below _ _ _; rw [hWA]; exact (Below.refl _ _).alloc (Nat.le_refl _) _
      clear hz p0 p1 p2 p3 hsz hbx hgb hWA kk
      go_wp2_with (go_at_call 21; try rw [← HWA.out]; refine (HCL.out _).mono ?_; rintro e w4 ⟨rfl, hl4⟩; refine Hid.out ?_)
      refine Lib.hid ?_
      have HL4 : Hid (Below wr.heap.size wr w4) := HAB.out.trans (hl4.mono HAB.out.size)
      have HL5 : Hid (Below wr.heap.size wr (w4.alloc (.cells #[.string P] 9))) := HL4.out.alloc HL4.out.size _
      have HO4 := Lib.hid (own_below HOW.out.1 HL5.out)
      have HB4 := Lib.hid (HBX.out.trans (HL5.out.mono HBX.out.size))
      have HN4 : Hid (∀ j u, ([P.data.toList].map sr.strL)[j]? = some u → (w4.alloc (.cells #[.string P] 9)).cell? ((⟨w4.heap.size, 0, none⟩ : Addr).add j) = some u) := by
        have h := sr.one_at w4 P.data.toList
        rw [sr.strL_of] at h
        exact h
      have HG5 : Hid ((w4.alloc (.cells #[.string P] 9)).heap[gm]? = w3.heap[gm]?) := (HL5.out.block gm hgl).trans HGB.out
      have HS5 : Hid (wr.heap.size ≤ (w4.alloc (.cells #[.string P] 9)).heap.size) := HL5.out.size
      clear hl4
      go_wp2_with (at_builtin; refine app_str_at _ rfl _ _ rfl w.heap.size _ (R.take k) rfl HO4.out HOW.out.2 ⟨w4.heap.size, 0, none⟩ 1 1 [P.data.toList] rfl rfl HN4.out (by have := HLK.out; omega) (by have := HB4.out.size; omega) ?_; intro v5 w5 ho5 hv5 hg5 hat5; refine Hid.out ?_)
      refine Lib.hid ?_
      have HO5 : Hid (sr.OwnS w.heap.size w5 v5 (R.take (k + 1))) := by show sr.OwnS _ _ _ _; rw [HTK.out]; exact ⟨ho5, hv5⟩
      have HB5 := Lib.hid (below_grownS HB4.out HO4.out hg5 HB4.out.size)
      have HG6 : Hid (w5.heap[gm]? = w3.heap[gm]?) := (hg5.block gm (by have := HS5.out; omega) (fun e => HVG.out e.symm)).trans HG5.out
      have HV5 : Hid (v5.ownBlock ≠ some gm) := fun e => by
        rcases hat5 with h | h
        · rw [h] at e; exact HVG.out e
        · rw [h] at e
          have := Option.some.inj e
          have := HS5.out
          omega
      clear ho5 hv5 hg5 hat5
      go_wp2
      go_roundw
      case rel => exact ⟨k + 1, by omega, by go_num, HO5.out, HV5.out, HG6.out, HB5.out⟩
      case measure => simp [intOf]; omega
    · have hkl' : ¬ (k : Int) < (nl : Int) := by omega
      obtain rfl : k = nl := by omega
      have HE : Hid (sr.OwnS w.heap.size wr u5 R) := by
        have h := HOW.out
        rw [List.take_of_length_le (by have := HZL.out; have := HNL.out; omega)] at h
        exact h
      clear hbx hgb
      go_wp2
      go_ret
      exact ⟨⟨_, rfl, HE.out⟩, HBX.out⟩

end Go.Proofs.YthkngngkmbohoaaGreatDoor.im
