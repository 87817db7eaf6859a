import Derived.Test.YtimcocmjmlejfaaGreatDoorQT
import Derived.Test.YtimcocmjmlejfaaGreatDoorQL
namespace Go.Proofs.YtimcocmjmlejfaaGreatDoor.rc
open Go.ChangeShapes Go.WideShapes Go.ChangeAt Go.RowKit Go.Deep Go.Lib Go.Shelf Go.Proofs.YtimcocmjmlejfaaGreatDoor.vr
set_option linter.unusedVariables false
set_option linter.unusedSimpArgs false

/-! ### The specification: Matches -/

theorem rd_terms {s : List UInt8} {ls : List (List Tm)} (h : rd s = some ls) : ls.length ≤ 201 ∧ ∀ l ∈ ls, l.length ≤ 201 ∧ ∀ x ∈ l, x.2.length ≤ 1000 ∧ (x.1 = [42] ∨ ver x.2 = some (bpt x)) := by
  unfold rd at h
  split at h
  · cases h
  · next hl =>
    split at h
    · next hall =>
      obtain rfl := Option.some.inj h
      have ha := al_len _ s [] (Nat.le_refl _)
      refine ⟨by rw [List.length_map]; omega, fun l hm => ?_⟩
      obtain ⟨a, ha', rfl⟩ := List.mem_map.1 hm
      have hla := ha.2 a ha'
      simp only [List.length_nil] at hla
      have hwl := wds_len a []
      refine ⟨by rw [List.length_map]; omega, fun x hx => ?_⟩
      have hok : altOk (wds [] a) = true := List.all_eq_true.1 hall _ (List.mem_map.2 ⟨a, ha', rfl⟩)
      rw [← alt_trm] at hok
      unfold altT at hok
      rw [Bool.or_eq_true] at hok
      rcases hok with hok | hok
      · have := of_decide_eq_true hok
        rw [this] at hx
        obtain rfl := List.mem_singleton.1 hx
        exact ⟨by simp, .inl rfl⟩
      · rw [Bool.and_eq_true] at hok
        have hx' := List.all_eq_true.1 hok.2 x hx
        unfold tOk at hx'
        rw [Bool.and_eq_true] at hx'
        obtain ⟨B, hB⟩ := Option.isSome_iff_exists.1 hx'.2
        have := (ver_short hB).1
        exact ⟨by omega, .inr (by unfold bpt; rw [hB]; rfl)⟩
    · cases h

def mtc (c v : List UInt8) : Bool := match rd c, ver v with
  | some ls, some A => mch A ls
  | _, _ => false

theorem fitsT_any (A : List Pt) (s : ByteArray) (hs : s.size ≤ 1048576) (hv : ver s.data.toList = some A) (x : Tm) (hx : x.2.length ≤ 1000 ∧ (x.1 = [42] ∨ ver x.2 = some (bpt x))) (w : World) :
    Calls Tryz.prog 52 #[.agg #[.string ⟨x.1.toArray⟩, .string ⟨x.2.toArray⟩], .string s] w fun e w' => e = .returned (.bool (mt A x.1 (bpt x))) ∧ Below w.heap.size w w' := by
  have := fits_any A (bpt x) s ⟨x.1.toArray⟩ ⟨x.2.toArray⟩ hs (by show x.2.toArray.size ≤ _; have := hx.1; simp; omega) hv (by rw [toL', show (⟨x.2.toArray⟩ : ByteArray).data.toList = x.2 from by simp]; exact hx.2) w
  rwa [toL'] at this

set_option maxHeartbeats 4000000 in
set_option maxRecDepth 100000 in
theorem smatches_any (c s : ByteArray) (hc : c.size ≤ 1048576) (hs : s.size ≤ 1048576) (w : World) :
    Calls Tryz.prog 30 #[.string c, .string s] w fun e w' => e = .returned (.bool (mtc c.data.toList s.data.toList)) ∧ Below w.heap.size w w' := by
  obtain ⟨b, hb⟩ : ∃ b, mtc c.data.toList s.data.toList = b := ⟨_, rfl⟩
  rw [hb]
  have HVO : Hid (∀ W, Calls Tryz.prog 12 #[.string s] W fun e w' => e = .returned (.bool (ver s.data.toList).isSome) ∧ Below W.heap.size W w') := fun W => sok_any s hs W
  have HRD : Hid (Calls Tryz.prog 9 #[.string c] w fun e w' => RIs w.heap.size c.data.toList e w' ∧ Below w.heap.size w w') := sread_any c hc w
  cases hr : rd c.data.toList with
  | none =>
    have HB : Hid (b = false) := by show _ = _; rw [← hb]; unfold mtc; rw [hr]
    have HRD' : Hid (Calls Tryz.prog 9 #[.string c] w fun e w' => (∃ v, e = .returned (.tuple #[v, .bool false])) ∧ Below w.heap.size w w') := HRD.out.mono (by
      rintro e w' ⟨⟨ls, v, bb, vs, K, h | h, rfl, h2⟩, h3⟩
      · obtain ⟨_, _, rfl⟩ := h
        exact ⟨⟨v, rfl⟩, h3⟩
      · rw [hr] at h; cases h.1)
    clear hb hr HRD
    go_enter Tryz.func30, Tryz.ntmps30
    go_wp2_with (go_at_call 9; refine HRD'.out.mono ?_; rintro e w1 ⟨⟨v1, rfl⟩, hl1⟩)
    go_ret
    exact ⟨ret_bool HB.out.symm, hl1⟩
  | some ls =>
    have HRD' : Hid (Calls Tryz.prog 9 #[.string c] w fun e w' => (∃ G cap, e = .returned (.tuple #[.slice (some ⟨G, 0, none⟩) ls.length cap, .bool true]) ∧ RdR w' (.slice (some ⟨G, 0, none⟩) ls.length cap) ls) ∧ Below w.heap.size w w') := HRD.out.mono (by
      rintro e w' ⟨⟨ls', v, bb, vs, K, h | h, rfl, h2⟩, h3⟩
      · rw [hr] at h; cases h.1
      · obtain ⟨h, rfl⟩ := h
        rw [hr] at h
        obtain rfl := Option.some.inj h
        have hR := h2.read
        obtain ⟨G, cap, rfl, _⟩ := id hR
        exact ⟨⟨G, cap, rfl, hR⟩, h3⟩)
    cases hv : ver s.data.toList with
    | none =>
      have HB : Hid (b = false) := by show _ = _; rw [← hb]; unfold mtc; rw [hr, hv]
      rw [hv] at HVO
      clear hb hr hv HRD
      go_enter Tryz.func30, Tryz.ntmps30
      go_wp2_with (first
        | (go_at_call 9; refine HRD'.out.mono ?_; rintro e w1 ⟨⟨G, cap, rfl, hR⟩, hl1⟩)
        | (go_at_call 12; refine (HVO.out _).mono ?_; rintro e w2 ⟨rfl, hl2⟩))
      go_ret
      exact ⟨ret_bool HB.out.symm, hl1.trans (hl2.mono hl1.size)⟩
    | some A =>
      have HB : Hid (b = mch A ls) := by show _ = _; rw [← hb]; unfold mtc; rw [hr, hv]
      have HT : Hid (ls.length ≤ 201 ∧ ∀ l ∈ ls, l.length ≤ 201 ∧ ∀ x ∈ l, x.2.length ≤ 1000 ∧ (x.1 = [42] ∨ ver x.2 = some (bpt x))) := rd_terms hr
      have hls := HT.out.1
      have HFT : Hid (∀ x : Tm, (x.2.length ≤ 1000 ∧ (x.1 = [42] ∨ ver x.2 = some (bpt x))) → ∀ W, Calls Tryz.prog 52 #[.agg #[.string ⟨x.1.toArray⟩, .string ⟨x.2.toArray⟩], .string s] W fun e w' => e = .returned (.bool (mt A x.1 (bpt x))) ∧ Below W.heap.size W w') := fun x hx W => fitsT_any A s hs hv x hx W
      rw [hv] at HVO
      clear hb hr hv HRD
      go_enter Tryz.func30, Tryz.ntmps30
      go_wp2_with (first
        | (go_at_call 9; refine HRD'.out.mono ?_; rintro e w1 ⟨⟨G, cap, rfl, hR⟩, hl1⟩)
        | (go_at_call 12; refine (HVO.out _).mono ?_; rintro e w2 ⟨rfl, hl2⟩; have HR2 : Hid (RdR w2 (.slice (some ⟨G, 0, none⟩) ls.length cap) ls) := hR.below hl2; have HK2 : Hid (Below w.heap.size w w2) := hl1.trans (hl2.mono hl1.size)))
      clear hR hl1 hl2
      go_loopw [7] (fun x wr => ∃ j : Nat, j ≤ ls.length ∧ x = .int .i64 (j : Int) ∧ (∀ (i : Nat) (y : List Tm), i < j → ls[i]? = some y → mtAll A y = false) ∧ Below w2.heap.size w2 wr) (fun x _ => ls.length - (intOf x).toNat)
      case atStart => exact ⟨0, Nat.zero_le _, rfl, fun i t h => by omega, Below.refl _ _⟩
      case round =>
        obtain ⟨j, hj, rfl, hall, hbel⟩ := hrel
        have HAL : Hid (∀ (i : Nat) (y : List Tm), i < j → ls[i]? = some y → mtAll A y = false) := hall
        have HBE : Hid (Below w2.heap.size w2 wr) := hbel
        clear hall
        by_cases hjl : j < ls.length
        · have hj' : (j : Int) < (ls.length : Int) := by omega
          have hj0 : (0 : Int) ≤ (j : Int) := by omega
          obtain ⟨x, hx⟩ : ∃ x, ls[j]? = some x := ⟨_, List.getElem?_eq_getElem hjl⟩
          have HX : Hid (ls[j]? = some x) := hx
          obtain ⟨G', cap', e', hg, hin⟩ := HR2.out
          obtain ⟨rfl, -, -⟩ : G = G' ∧ ls.length = ls.length ∧ cap = cap' := by simpa using e'
          obtain ⟨g, cc, h1, h2⟩ := hin j x hx
          obtain ⟨g', c', e2, hcap2, hcell, hg2⟩ := h2
          obtain ⟨rfl, -, -⟩ : g = g' ∧ x.length = x.length ∧ cc = c' := by simpa using e2
          have HD : Hid (∀ W, Below w2.heap.size w2 W → W.cell? ⟨G, j, none⟩ = some (.slice (some ⟨g, 0, none⟩) x.length cc)) := fun W h => (h.cell (p := ⟨G, _, none⟩) hg).trans h1
          have HE : Hid (∀ W, Below w2.heap.size w2 W → ∀ (i : Nat) (y : Tm), x[i]? = some y → W.cell? ⟨g, i * 2, none⟩ = some (.string ⟨y.1.toArray⟩) ∧ W.cell? ⟨g, i * 2 + 1, none⟩ = some (.string ⟨y.2.toArray⟩)) := fun W h i y hy => ⟨(h.cell (p := ⟨g, _, none⟩) hg2).trans (hcell i y hy).1, (h.cell (p := ⟨g, _, none⟩) hg2).trans (hcell i y hy).2⟩
          have hxl := (HT.out.2 x (List.mem_of_getElem? hx)).1
          have HXT : Hid (∀ y ∈ x, y.2.length ≤ 1000 ∧ (y.1 = [42] ∨ ver y.2 = some (bpt y))) := (HT.out.2 x (List.mem_of_getElem? hx)).2
          clear hin hcell h1 e' e2 hx hbel
          go_wp2_with fail
          go_loopw [8, 9] (fun x1 x2 wr' => ∃ (k : Nat) (b' : Bool), k ≤ x.length ∧ x1 = .bool b' ∧ x2 = .int .i64 (k : Int) ∧ b' = ((x.take k).all fun t => mt A t.1 (bpt t)) ∧ Below w2.heap.size w2 wr') (fun _ x2 _ => x.length - (intOf x2).toNat)
          case atStart => exact ⟨0, true, Nat.zero_le _, rfl, rfl, by simp, HBE.out⟩
          case round =>
            obtain ⟨k, b', hk, rfl, rfl, hb', hbel'⟩ := hrel
            have HBB : Hid (b' = ((x.take k).all fun t => mt A t.1 (bpt t))) := hb'
            have HBI : Hid (Below w2.heap.size w2 wr) := hbel'
            have d := HD.out _ hbel'
            clear hb'
            by_cases hkl : k < x.length
            · have hk' : (k : Int) < (x.length : Int) := by omega
              have hk0 : (0 : Int) ≤ (k : Int) := by omega
              obtain ⟨y, hy⟩ : ∃ y, x[k]? = some y := ⟨_, List.getElem?_eq_getElem hkl⟩
              have HY : Hid (x.take (k + 1) = x.take k ++ [y]) := by
                show _ = _
                rw [List.take_add_one, hy]
                rfl
              obtain ⟨d0, d1⟩ := HE.out _ hbel' k y hy
              have HF := HFT.out y (HXT.out y (List.mem_of_getElem? hy))
              obtain ⟨P, hP⟩ : ∃ P : ByteArray, (⟨y.1.toArray⟩ : ByteArray) = P := ⟨_, rfl⟩
              obtain ⟨V, hV⟩ : ∃ V : ByteArray, (⟨y.2.toArray⟩ : ByteArray) = V := ⟨_, rfl⟩
              rw [hP] at d0 HF
              rw [hV] at d1 HF
              obtain ⟨f, hf⟩ : ∃ f, mt A y.1 (bpt y) = f := ⟨_, rfl⟩
              rw [hf] at HF
              have HF' : Hid (∀ W, Calls Tryz.prog 52 #[.agg #[.string P, .string V], .string s] W fun e w' => e = .returned (.bool f) ∧ Below W.heap.size W w') := HF
              have HFF : Hid (mt A y.1 (bpt y) = f) := hf
              clear hbel' hP hV hf HF hy
              cases hbb : b' with
              | true =>
                rw [hbb] at HBB
                clear hbb
                go_wp2_with (go_at_call 52; refine (HF'.out _).mono ?_; rintro e w3 ⟨rfl, hl3⟩)
                go_roundw
                case rel => exact ⟨k + 1, f, by omega, rfl, by go_num, by rw [HY.out, List.all_append, ← HBB.out]; simp [HFF.out], HBI.out.trans (hl3.mono HBI.out.size)⟩
                case measure => simp [intOf]; omega
              | false =>
                rw [hbb] at HBB
                clear hbb
                go_wp2_with fail
                go_roundw
                case rel => exact ⟨k + 1, false, by omega, rfl, by go_num, by rw [HY.out, List.all_append, ← HBB.out]; simp, HBI.out⟩
                case measure => simp [intOf]; omega
            · have hk' : ¬ (k : Int) < (x.length : Int) := by omega
              have HXA : Hid (mtAll A x = b') := by
                show _ = _
                rw [HBB.out, List.take_of_length_le (by omega)]
                rfl
              clear hbel'
              cases hbb : b' with
              | true =>
                rw [hbb] at HXA
                have HM : Hid (mch A ls = true) := by
                  show _ = _
                  unfold mch
                  rw [List.any_eq_true]
                  exact ⟨x, List.mem_of_getElem? HX.out, HXA.out⟩
                clear hbb
                go_wp2_with fail
                go_ret
                exact ⟨ret_bool (by rw [HB.out, HM.out]), HK2.out.trans (HBI.out.mono HK2.out.size)⟩
              | false =>
                rw [hbb] at HXA
                clear hbb
                go_wp2_with fail
                go_roundw
                case rel => exact ⟨j + 1, by omega, by go_num, fun i y hi ht => by
                  rcases Nat.lt_or_ge i j with h | h
                  · exact HAL.out i y h ht
                  · obtain rfl : i = j := by omega
                    rw [HX.out] at ht
                    obtain rfl := Option.some.inj ht
                    exact HXA.out, HBI.out⟩
                case measure => simp [intOf]; omega
        · have hj' : ¬ (j : Int) < (ls.length : Int) := by omega
          have HM : Hid (mch A ls = false) := by
            show _ = _
            unfold mch
            rw [List.any_eq_false]
            intro y hy
            obtain ⟨i, hi⟩ := List.getElem?_of_mem hy
            rw [HAL.out i y (by have := (List.getElem?_eq_some_iff.1 hi).1; omega) hi]
            simp
          go_wp2
          go_ret
          exact ⟨ret_bool (by rw [HB.out, HM.out]), HK2.out.trans (HBE.out.mono HK2.out.size)⟩

end Go.Proofs.YtimcocmjmlejfaaGreatDoor.rc
