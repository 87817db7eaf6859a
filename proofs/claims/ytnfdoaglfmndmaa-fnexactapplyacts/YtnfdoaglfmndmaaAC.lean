import Derived.Test.YtnfdoaglfmndmaaAB
import Derived.Test.YtnfdoaglfmndmaaCT
namespace Go.Proofs.Ytnfdoaglfmndmaa.ac
open Go.ChangeShapes Go.WideShapes Go.ChangeAt Go.RowKit Go.Deep Go.Shelf Go.Maps Go.Sort
set_option linter.unusedVariables false
set_option linter.unusedSimpArgs false

/-! ### Acts: the program -/

theorem StM.congr {w : World} {b n : Nat} {L L' : List (List UInt8)} (h : StM w b n L) (e : ∀ y, y ∈ L ↔ y ∈ L') : StM w b n L' := by
  obtain ⟨D, h1, h2⟩ := h
  exact ⟨D, h1, fun y => (h2 y).trans (e y)⟩
theorem apS_small {B : Nat} : ∀ {o : List (List UInt8)} {q : ty.Ac}, (∀ x ∈ o, x.length ≤ B) → q.fName.size ≤ B → ∀ x ∈ apS o q, x.length ≤ B := by
  intro o q h1 h2 x hx
  rw [apS_mem] at hx
  have e : q.fName.data.toList.length = q.fName.size := Array.length_toList
  split at hx
  · exact h1 x hx.1
  · rcases hx with hx | rfl
    · exact h1 x hx
    · omega
theorem fold_small {B : Nat} : ∀ (qs : List ty.Ac) (o : List (List UInt8)), (∀ x ∈ o, x.length ≤ B) → (∀ q ∈ qs, q.fName.size ≤ B) → ∀ x ∈ qs.foldl apS o, x.length ≤ B
  | [], o, h1, _ => h1
  | q :: qs, o, h1, h2 => fold_small qs _ (apS_small h1 (h2 q (by simp))) (fun q' hq' => h2 q' (by simp [hq']))

theorem apA_len (l : List ByteArray) (qs : List ty.Ac) : (apA l qs).length ≤ 1000000 := by
  unfold apA
  split
  · next h =>
    have h1 := fold_apS_len qs ((apX l).foldl sr.fadd [])
    have h2 := fold_len (apX l) []
    rw [apX_len] at h2
    simp only [List.length_nil] at h2
    unfold apL
    omega
  · simp

set_option maxHeartbeats 4000000 in
set_option maxRecDepth 100000 in
theorem iapp_any (a0 : Option Addr) (c0 : Nat) (l : List ByteArray) (a1 : Option Addr) (c1 : Nat) (qs : List ty.Ac) (w : World) (h0 : ty.SrcS none w a0 l) (h1 : ty.SrcAc none w a1 qs) (hl : ty.wtS l ≤ 1048576) (hq : ty.wtAc qs ≤ 1048576) :
    Calls Try.prog 15 #[.slice a0 l.length c0, .slice a1 qs.length c1] w fun e w' => (∃ v, e = .returned v ∧ sr.OwnS w.heap.size w' v (apA l qs)) ∧ Below w.heap.size w w' := by
  have hll := ty.wtS_len l
  have hql := ty.wtAc_len qs
  have HSL : Hid (∀ x ∈ l, x.size ≤ 1048576) := fun x hx => by have := ty.wtS_mem hx; omega
  have HSQ : Hid (∀ q ∈ qs, q.fName.size ≤ 1048576) := fun q hx => by have := ty.wtAc_mem hx; unfold ty.wt1Ac at this; omega
  by_cases hb : l.length ≤ 2000 ∧ qs.length ≤ 2000
  rotate_left
  · have HA : Hid (apA l qs = []) := by show _ = _; unfold apA; rw [if_neg hb]
    rw [HA.out]
    have HN0 : Hid (sr.OwnS w.heap.size (w.alloc (.cells #[] 9)) (.slice (some ⟨w.heap.size, 0, none⟩) 0 0) []) := ⟨sr.own_zero w, sr.not_nil _ _ _⟩
    clear h0 h1
    by_cases hl2 : l.length ≤ 2000
    · have g1 : ¬ (2000 : Int) < (l.length : Int) := by omega
      have g2 : (2000 : Int) < (qs.length : Int) := by omega
      go_enter Try.func15, Try.ntmps15
      go_wp2
      go_ret
      exact ⟨⟨_, rfl, HN0.out⟩, (Below.refl _ _).alloc (Nat.le_refl _) _⟩
    · have g1 : (2000 : Int) < (l.length : Int) := by omega
      go_enter Try.func15, Try.ntmps15
      go_wp2
      go_ret
      exact ⟨⟨_, rfl, HN0.out⟩, (Below.refl _ _).alloc (Nat.le_refl _) _⟩
  have HA : Hid (apA l qs = apL l qs) := by show _ = _; unfold apA; rw [if_pos hb]
  rw [HA.out]
  obtain ⟨hl2, hq2⟩ := hb
  have g1 : ¬ (2000 : Int) < (l.length : Int) := by omega
  have g2 : ¬ (2000 : Int) < (qs.length : Int) := by omega
  have HQ : Hid (ty.SrcAc none w a1 qs) := h1
  have HSO : Hid (∀ W : World, W = w → Calls Try.prog 35 #[.slice a0 l.length c0] W fun e w' => e = .returned (.map (some w.heap.size)) ∧ StM w' w.heap.size l.length (apX l) ∧ Below w.heap.size w w') := fun W hW => by subst hW; exact setOf_any a0 c0 l W h0 (by omega) HSL.out
  have HAS : Hid (sr.asc (apL l qs)) := apL_asc l qs
  have HSM : Hid (∀ x ∈ apL l qs, x.length ≤ 1048576) := fold_small qs _ (fun x hx => by
    rw [sr.fold_mem] at hx
    rcases hx with hx | hx
    · cases hx
    · unfold apX at hx
      obtain ⟨y, hy, rfl⟩ := List.mem_map.1 hx
      have := HSL.out y hy
      have e : y.data.toList.length = y.size := Array.length_toList
      omega) HSQ.out
  have HLN : Hid ((apL l qs).length ≤ 4000) := by
    show _ ≤ _
    have h1 := fold_apS_len qs ((apX l).foldl sr.fadd [])
    have h2 := fold_len (apX l) []
    rw [apX_len] at h2
    simp only [List.length_nil] at h2
    unfold apL
    omega
  obtain ⟨O, hO⟩ : ∃ O, (apX l).foldl sr.fadd [] = O := ⟨_, rfl⟩
  have HO : Hid (∀ y, y ∈ apX l ↔ y ∈ O) := fun y => by rw [← hO, sr.fold_mem]; simp
  have HE : Hid (apL l qs = qs.foldl apS O) := by show _ = _; rw [← hO]; rfl
  obtain ⟨n, hn⟩ : ∃ n, l.length = n := ⟨_, rfl⟩
  obtain ⟨m, hm⟩ : ∃ n, qs.length = n := ⟨_, rfl⟩
  have HM : Hid (qs.length = m) := hm
  rw [hn] at g1 hl2 HSO
  rw [hm] at g2 hq2
  rw [hn, hm]
  clear h0 h1 hn hm hO HA hll hql hl hq HSL
  go_enter Try.func15, Try.ntmps15
  go_wp2_with (go_at_call 35; refine (HSO.out _ rfl).mono ?_; rintro e w1 ⟨rfl, hst, hl1⟩; refine Hid.out ?_)
  refine Lib.hid ?_
  have HST : Hid (StM w1 w.heap.size n O) := hst.congr HO.out
  have HB1 : Hid (Below w.heap.size w w1) := hl1
  clear hst hl1 HSO
  go_wp2
  go_loopw [21] (fun y wr => ∃ k : Nat, k ≤ m ∧ y = .int .i64 (k : Int) ∧ (∃ z, z ≤ n + k ∧ StM wr w.heap.size z ((qs.take k).foldl apS O)) ∧ Below w.heap.size w wr) (fun y _ => m - (intOf y).toNat)
  case atStart => exact ⟨0, Nat.zero_le _, rfl, ⟨n, Nat.le_refl _, HST.out⟩, HB1.out⟩
  case round =>
    obtain ⟨k, hk, rfl, ⟨z, hz, hst⟩, hbel⟩ := hrel
    have HBK : Hid (Below w.heap.size w wr) := hbel
    have HSK : Hid (StM wr w.heap.size z ((qs.take k).foldl apS O)) := hst
    clear hst
    by_cases hkm : k < m
    · have hkm' : (k : Int) < (m : Int) := by omega
      have hk0 : (0 : Int) ≤ (k : Int) := by omega
      obtain ⟨q, hq⟩ : ∃ q, qs[k]? = some q := ⟨_, List.getElem?_eq_getElem (by rw [HM.out]; exact hkm)⟩
      rcases HQ.out with ⟨_, h⟩ | ⟨b, o, rfl, _, hc⟩
      · rw [h] at hq; simp at hq
      obtain ⟨c0', c1'⟩ := (hc k q hq).below hbel
      have HXK : Hid ((qs.take (k + 1)).foldl apS O = apS ((qs.take k).foldl apS O) q) := fold_take _ _ hq
      have hqs := HSQ.out q (List.mem_of_getElem? hq)
      have HAP : Hid (∀ y, y ∈ apS ((qs.take k).foldl apS O) q ↔ if q.fKind = 1 then (y ∈ (qs.take k).foldl apS O ∧ y ≠ q.fName.data.toList) else (y ∈ (qs.take k).foldl apS O ∨ y = q.fName.data.toList)) := fun y => apS_mem _ _ _
      obtain ⟨zs, hzs⟩ : ∃ zs, (qs.take k).foldl apS O = zs := ⟨_, rfl⟩
      rw [hzs] at HSK HXK HAP
      obtain ⟨L', hL'⟩ : ∃ L', apS zs q = L' := ⟨_, rfl⟩
      rw [hL'] at HXK HAP
      obtain ⟨kd, hkd⟩ : ∃ z, q.fKind = z := ⟨_, rfl⟩
      obtain ⟨nm, hnm⟩ : ∃ z, q.fName = z := ⟨_, rfl⟩
      rw [hkd] at c0' HAP
      rw [hnm] at c1' HAP hqs
      have HB4 : Hid (∀ ob, Below wr.heap.size wr (wr.alloc ob)) := fun ob => (Below.refl _ _).alloc (Nat.le_refl _) _
      have HW4 : Hid (∀ ob, Below w.heap.size w (wr.alloc ob)) := fun ob => HBK.out.trans ((HB4.out ob).mono HBK.out.size)
      clear hkd hnm hzs hq hc hbel hL'
      by_cases h1 : kd = 1
      · subst h1
        have HAQ : Hid (∀ y, y ∈ L' ↔ (y ∈ zs ∧ y ≠ nm.data.toList)) := fun y => by have := HAP.out y; rwa [if_pos rfl] at this
        have hkey := keyS nm hqs
        obtain ⟨D, hown, hD⟩ := HSK.out.below (HB4.out (.cells #[.int .i64 1, .string nm] 57))
        have HDD : Hid (∀ y, Maps.has (D.del (.string nm.data.toList)) (.string y) = true ↔ y ∈ L') := fun y => by
          rw [HAQ.out]
          by_cases e : y = nm.data.toList
          · subst e
            rw [has_del_same]
            simp
          · rw [has_del_other (by simpa using e), hD y]
            simp [e]
        clear hD HAP HSK
        go_wp2_with (first
          | (at_delete; refine wpList_delete_own _ rfl _ _ 60 9 rfl 67 keyedS Try.underlying60 _ w.heap.size z D rfl hown _ _ rfl hkey ?_; intro w5 hown5 hturn5; refine Hid.out ?_)
          | go_in)
        refine Lib.hid ?_
        have HN5 : Hid (StM w5 w.heap.size z ((qs.take (k + 1)).foldl apS O)) := by
          show StM _ _ _ _
          rw [HXK.out]
          exact ⟨_, hown5, HDD.out⟩
        have HW5 : Hid (Below w.heap.size w w5) := (HW4.out _).grown hturn5.grown (HW4.out _).size (fun k hk => by have := Option.some.inj hk; omega)
        clear hown5 hturn5 hown HDD
        go_wp2
        go_roundw
        case rel => exact ⟨k + 1, by omega, by go_num, ⟨z, by omega, HN5.out⟩, HW5.out⟩
        case measure => simp [intOf]; omega
      · have HAQ : Hid (∀ y, y ∈ L' ↔ (y ∈ zs ∨ y = nm.data.toList)) := fun y => by have := HAP.out y; rwa [if_neg h1] at this
        have HAD : Hid (∀ W, Below wr.heap.size wr W → Calls Try.prog 36 #[.map (some w.heap.size), .string nm] W fun e w' => (∃ v, e = .returned v) ∧ StM w' w.heap.size (z + 1) L' ∧ W.grownBy w' (some w.heap.size)) := fun W h => add_any nm hqs w.heap.size z (by omega) zs L' HAQ.out W (HSK.out.below h)
        clear HAP HSK
        go_wp2_with (go_at_call 36; refine (HAD.out _ (HB4.out _)).mono ?_; rintro e w5 ⟨⟨v, rfl⟩, ho5, hg5⟩; refine Hid.out ?_)
        refine Lib.hid ?_
        have HN5 : Hid (StM w5 w.heap.size (z + 1) ((qs.take (k + 1)).foldl apS O)) := by
          show StM _ _ _ _
          rw [HXK.out]
          exact ho5
        have HW5 : Hid (Below w.heap.size w w5) := (HW4.out _).grown hg5 (HW4.out _).size (fun k hk => by have := Option.some.inj hk; omega)
        clear ho5 hg5
        go_wp2
        go_roundw
        case rel => exact ⟨k + 1, by omega, by go_num, ⟨z + 1, by omega, HN5.out⟩, HW5.out⟩
        case measure => simp [intOf]; omega
    · have hkm' : ¬ (k : Int) < (m : Int) := by omega
      have HO7 : Hid (StM wr w.heap.size z (apL l qs)) := by
        have h := HSK.out
        rw [List.take_of_length_le (by rw [HM.out]; omega), ← HE.out] at h
        exact h
      have HKY : Hid (∀ W : World, Calls Try.prog 39 #[.map (some w.heap.size)] W fun e w' => e = .returned (.func (.func 50) #[] #[.pointer (some ⟨W.heap.size, 0, none⟩)]) ∧ w' = W.alloc (.cells #[.map (some w.heap.size)] 60)) := fun W => callsIn_wide.1 (Try.maps_Keys_39 (some w.heap.size) W)
      have HSD := Lib.hid (sorted_any w.heap.size z (apL l qs) wr HO7.out HAS.out (by omega))
      have HCL : Hid (∀ (W : World) (v : Value), sr.RdS W v (apL l qs) → Calls Try.prog 37 #[v] W fun e w' => e = .returned (.slice (some ⟨W.heap.size, 0, none⟩) (apL l qs).length (apL l qs).length) ∧ sr.OwnS W.heap.size w' (.slice (some ⟨W.heap.size, 0, none⟩) (apL l qs).length (apL l qs).length) (apL l qs) ∧ Below W.heap.size W w') := fun W v h => sr.clonedR_any _ HSM.out v W h (by have := HLN.out; omega)
      obtain ⟨L, hL⟩ : ∃ L, apL l qs = L := ⟨_, rfl⟩
      rw [hL] at HSD HCL
      have HLE : Hid (apL l qs = L) := hL
      clear hbel hL HSK HO7 HE HAS HSM HLN
      go_wp2_with (go_at_call 39; refine (HKY.out _).mono ?_; rintro e w5 ⟨rfl, rfl⟩; refine Hid.out ?_)
      refine Lib.hid ?_
      go_wp2_with (go_at_call 38; refine HSD.out.mono ?_; rintro e w6 ⟨⟨v6, rfl, hv6⟩, hl6⟩; refine Hid.out ?_)
      refine Lib.hid ?_
      have HV6 : Hid (sr.RdS w6 v6 L) := sr.RdS.own hv6
      have HW6 : Hid (Below w.heap.size w w6) := (HBK.out.alloc HBK.out.size _).trans (hl6.mono (by have := HBK.out.size; omega))
      clear hv6 hl6 HSD
      go_wp2_with (go_at_call 37; refine (HCL.out _ _ HV6.out).mono ?_; rintro e w7 ⟨rfl, ho7, hl7⟩)
      go_ret
      exact ⟨⟨_, rfl, by rw [HLE.out]; exact ho7.mono HW6.out.size⟩, HW6.out.trans (hl7.mono HW6.out.size)⟩

end Go.Proofs.Ytnfdoaglfmndmaa.ac
