import Derived.Test.YtnhddnfobcofcaaGreatDoorG12
namespace Go.Proofs.YtnhddnfobcofcaaGreatDoor.cd
open Go.ChangeShapes Go.WideShapes Go.ChangeAt Go.RowKit Go.Deep Go.Maps
set_option linter.unusedVariables false
set_option linter.unusedSimpArgs false

theorem PsI {w : World} {base e n : Nat} {v : Value} {l : List Value} (h : w.ownsRow base e 1 v n l) : ∃ a cap, v = .slice a n cap ∧ l.length = n ∧ PsO w (Btw base w.heap.size) a l := by
  obtain ⟨hl, a, cap, e, _, _, hp⟩ := PsO.own h
  exact ⟨a, cap, e, hl, hp⟩

set_option maxRecDepth 100000 in
set_option maxHeartbeats 8000000 in
theorem sh_any (E : Nat → Cn) (b n : Nat) (hn : n ≤ 3000) (hs : ∀ i, i < n → (E i).name.size ≤ 1048576) (l : List ByteArray) (fa : Option Addr) (m cp : Nat) (hm : m ≤ 1048576) : ∀ (r p len cap : Nat) (w : World), XsB w b n E → st.Ss w fa m l → 0 < len → p + len ≤ n → len ≤ cap → cap ≤ 9223372036854775807 → ok E r p len = true →
    Calls Tryz.prog 28 #[.slice (some ⟨b, p * 3, none⟩) len cap, .slice fa m cp] w fun e w' => e = .returned (.bool (hE (fun x => decide (0 < cnt l m x)) E r p)) ∧ Below w.heap.size w w' := by
  intro r
  induction r with
  | zero => intro p len cap w _ _ _ _ _ _ h; cases h
  | succ r ih =>
    intro p len cap w hX hL hlen hp hc hcap hok
    obtain ⟨hz, ps, hcp, hall, hfit⟩ := ok_parts hok
    obtain ⟨hk, hk4⟩ := fit_kind hfit
    obtain ⟨hfits, hpl⟩ := cut_fits _ _ _ hcp
    have hsp := hs p (by omega)
    have hl0 : (0 : Int) < (len : Int) := by omega
    have HE : hE (fun x => decide (0 < cnt l m x)) E (r + 1) p = (if (E p).kind = 1 then decide (0 < cnt l m (E p).name.data.toList) else if (E p).kind = 2 then true else if (E p).kind = 3 then false
      else if (E p).kind = 4 then !(hE (fun x => decide (0 < cnt l m x)) E r (p + 1))
      else if (E p).kind = 6 then ps.any (hE (fun x => decide (0 < cnt l m x)) E r) else ps.all (hE (fun x => decide (0 < cnt l m x)) E r)) := by
      rw [hE, show (E p).size.toNat = len - 1 by omega, hcp]; rfl
    have HST : Hid (Calls Tryz.prog 46 #[.slice (some ⟨b, p * 3, none⟩) len cap] w fun e w' => ∃ a' cp', e = .returned (.slice a' ps.length cp') ∧ PsO w' (Btw w.heap.size w'.heap.size) a' (ps.map (offV p)) ∧ Below w.heap.size w w') := (starts_any E b n p len cap ps w hX hlen hp hn hz hcp).mono (by
      rintro e w' ⟨v, rfl, ho, hl⟩
      obtain ⟨a', cp', rfl, _, hp'⟩ := PsI ho
      exact ⟨a', cp', rfl, hp', hl⟩)
    have HI : Hid (∀ i (h : i < ps.length) W, Below w.heap.size w W → Calls Tryz.prog 28 #[.slice (some ⟨b, ps[i] * 3, none⟩) ((E ps[i]).size.toNat + 1) (cap - (ps[i] - p)), .slice fa m cp] W fun e w' => e = .returned (.bool (hE (fun x => decide (0 < cnt l m x)) E r ps[i])) ∧ Below W.heap.size W w') := fun i h W hb => by
      obtain ⟨f1, f2, f3⟩ := hfits _ (List.getElem_mem h)
      exact ih ps[i] ((E ps[i]).size.toNat + 1) (cap - (ps[i] - p)) W (hX.below hb) (hL.below hb) (by omega) (by omega) (by omega) (by omega) (hall _ (List.getElem_mem h))
    have HP : Hid (∀ i (h : i < ps.length) W, Below w.heap.size w W → Calls Tryz.prog 39 #[.slice (some ⟨b, p * 3, none⟩) len cap, offV p ps[i]] W fun e w' => e = .returned (.slice (some ⟨b, ps[i] * 3, none⟩) ((E ps[i]).size.toNat + 1) (cap - (ps[i] - p))) ∧ w' = W) := fun i h W hb => by
      obtain ⟨f1, f2, f3⟩ := hfits _ (List.getElem_mem h)
      have := part_any E b n p len cap (ps[i] - p) (E ps[i]).size.toNat W (hX.below hb) hp hn ⟨hc, hcap⟩ (by omega) (by rw [show p + (ps[i] - p) = ps[i] by omega]; omega) (by omega)
      rw [show p + (ps[i] - p) = ps[i] by omega] at this
      have ev : offV p ps[i] = .int .i64 ((ps[i] - p : Nat) : Int) := by unfold offV; congr 1; omega
      rw [ev]
      exact this
    have HHD : Hid (0 < ps.length → ps[0]? = some (p + 1)) := cut_head hcp
    have HFT : Hid (∀ q ∈ ps, Fits E (p + 1) (p + 1 + (len - 1)) q) := hfits
    have HCL : Hid (∀ W, Below w.heap.size w W → W.cell? ⟨b, p * 3, none⟩ = some (.int .i64 (E p).kind) ∧ W.cell? ⟨b, p * 3 + 1, none⟩ = some (.string (E p).name)) := fun W hb => by
      obtain ⟨a1, a2, _⟩ := (hX.below hb) p (by omega)
      exact ⟨a1, a2⟩
    have HLB : Hid (∀ W, Below w.heap.size w W → st.Ss W fa m l) := fun W hb => hL.below hb
    have HONE : Hid (ps.length = 1 → ∀ W, Below w.heap.size w W → ∀ (a1 : Option Addr), a1 = some ⟨b, (p + 1) * 3, none⟩ → Calls Tryz.prog 28 #[.slice a1 (len - 1) (cap - 1), .slice fa m cp] W fun e w' => e = .returned (.bool (hE (fun x => decide (0 < cnt l m x)) E r (p + 1))) ∧ Below W.heap.size W w') := fun h1 W hb a1 ha1 => by
      have e0 := cut_head hcp (by omega)
      obtain ⟨f1, f2, f3⟩ := hfits (p + 1) (List.mem_of_getElem? e0)
      have hlast : (E (p + 1)).size.toNat + 1 = len - 1 := by
        have hc2 := hcp
        rw [cut_step (by omega) (by omega), Option.map_eq_some_iff] at hc2
        obtain ⟨qs, hq, hqe⟩ := hc2
        have : qs = [] := by
          have := congrArg List.length hqe
          rw [h1] at this
          exact List.length_eq_zero_iff.1 (by simpa using this)
        rw [this] at hq
        rcases Nat.eq_zero_or_pos (len - 1 - ((E (p + 1)).size.toNat + 1)) with h | h
        · omega
        · rw [cutP, dif_neg (by omega)] at hq
          split at hq
          · cases hq
          · obtain ⟨_, _, h⟩ := Option.map_eq_some_iff.1 hq
            cases h
      rw [ha1, ← hlast]
      have := ih (p + 1) ((E (p + 1)).size.toNat + 1) (cap - 1) W (hX.below hb) (hL.below hb) (by omega) (by omega) (by omega) (by omega) (hall _ (List.mem_of_getElem? e0))
      exact this
    have hpb : ps.length ≤ 3000 := by omega
    clear ih hall hfit hfits hcp hok hX hL hpl hz
    rw [HE]
    clear HE
    generalize (E p).kind = K at *
    generalize (E p).name = T at *
    by_cases h1 : K = 1
    · subst h1
      simp only [if_true]
      go_enter Tryz.func28, Tryz.ntmps28
      go_wp2_with (first
        | (go_at_call 46; refine HST.out.mono ?_; rintro e w1 ⟨a', cp', rfl, hps, hl1⟩; obtain ⟨c0, c1⟩ := HCL.out w1 hl1)
        | (go_at_call 47; refine (has_any l fa m cp T hm _ (HLB.out w1 hl1)).mono ?_; rintro e wx ⟨rfl, hw⟩; obtain rfl := hw.symm; clear hw))
      go_ret
      exact ⟨rfl, hl1⟩
    rw [if_neg h1]
    by_cases h2 : K = 2
    · subst h2
      simp only [if_true]
      go_enter Tryz.func28, Tryz.ntmps28
      go_wp2_with (go_at_call 46; refine HST.out.mono ?_; rintro e w1 ⟨a', cp', rfl, hps, hl1⟩; obtain ⟨c0, c1⟩ := HCL.out w1 hl1)
      go_ret
      exact ⟨rfl, hl1⟩
    rw [if_neg h2]
    by_cases h3 : K = 3
    · subst h3
      simp only [if_true]
      go_enter Tryz.func28, Tryz.ntmps28
      go_wp2_with (go_at_call 46; refine HST.out.mono ?_; rintro e w1 ⟨a', cp', rfl, hps, hl1⟩; obtain ⟨c0, c1⟩ := HCL.out w1 hl1)
      go_ret
      exact ⟨rfl, hl1⟩
    rw [if_neg h3]
    by_cases h4 : K = 4
    · subst h4
      simp only [if_true]
      have hL1 := hk4 rfl
      obtain ⟨a1, ha1⟩ : ∃ a1, (if cap = 1 then some (⟨b, p * 3, none⟩ : Addr) else some ⟨b, p * 3 + 3, none⟩) = a1 := ⟨_, rfl⟩
      obtain ⟨f1, f2, f3⟩ := HFT.out (p + 1) (List.mem_of_getElem? (HHD.out (by omega)))
      have HA1 : Hid (a1 = some ⟨b, (p + 1) * 3, none⟩) := by
        show _ = _
        rw [← ha1, if_neg (by omega), show (p + 1) * 3 = p * 3 + 3 by omega]
      have HON := HONE.out hL1
      generalize hE (fun x => decide (0 < cnt l m x)) E r (p + 1) = B at *
      have HON' : Hid (∀ W, Below w.heap.size w W → ∀ (a1 : Option Addr), a1 = some ⟨b, (p + 1) * 3, none⟩ → Calls Tryz.prog 28 #[.slice a1 (len - 1) (cap - 1), .slice fa m cp] W fun e w' => e = .returned (.bool B) ∧ Below W.heap.size W w') := HON
      clear HON HONE f1 f2 f3 HFT HHD HI HP hk4 hL1
      go_enter Tryz.func28, Tryz.ntmps28
      go_wp2_with (first
        | (go_at_call 46; refine HST.out.mono ?_; rintro e w1 ⟨a', cp', rfl, hps, hl1⟩; obtain ⟨c0, c1⟩ := HCL.out w1 hl1)
        | (go_at_call 28; refine (HON'.out _ hl1 a1 HA1.out).mono ?_; rintro e w2 ⟨rfl, hl2⟩))
      go_ret
      exact ⟨rfl, hl1.trans (hl2.mono hl1.size)⟩
    rw [if_neg h4]
    clear hk4 HHD HONE HFT
    by_cases h6 : K = 6
    · subst h6
      simp only [if_true]
      go_enter Tryz.func28, Tryz.ntmps28
      go_wp2_with (go_at_call 46; refine HST.out.mono ?_; rintro e w1 ⟨a', cp', rfl, hps, hl1⟩; obtain ⟨c0, c1⟩ := HCL.out w1 hl1)
      obtain ⟨ab, off, hPa, hPc⟩ := hps
      have hPa' : ps.length = 0 ∨ a' = some ⟨ab, off, none⟩ := by rcases hPa with h | h; exact .inl (by simpa using h); exact .inr h.1
      have HPC : Hid (∀ i (h : i < ps.length), w1.cell? ⟨ab, off + i, none⟩ = some (offV p ps[i])) := fun i h => hPc i _ (by simp [h])
      have hs1 := hl1.size
      clear hPa hPc c0 c1
      go_loopw [6] (fun x wr => ∃ j : Nat, j ≤ ps.length ∧ x = .int .i64 (j : Int) ∧ (∀ i (hi : i < ps.length), i < j → hE (fun x => decide (0 < cnt l m x)) E r ps[i] = false) ∧ Below w1.heap.size w1 wr) (fun x _ => ps.length - (intOf x).toNat)
      case atStart => exact ⟨0, Nat.zero_le _, rfl, fun i _ h => by omega, Below.refl _ _⟩
      case round =>
        obtain ⟨j, hj, rfl, hsf, hbel⟩ := hrel
        have HSF : Hid (∀ i (hi : i < ps.length), i < j → hE (fun x => decide (0 < cnt l m x)) E r ps[i] = false) := hsf
        clear hsf
        have HB : Below w.heap.size w wr := hl1.trans (hbel.mono hs1)
        obtain ⟨k0, k1⟩ := HCL.out wr HB
        by_cases hjl : j < ps.length
        · have hjl' : (j : Int) < (ps.length : Int) := by omega
          rcases hPa' with h | rfl
          · omega
          have q0 : wr.cell? ⟨ab, off + j, none⟩ = some (offV p ps[j]) := (hbel.cell (p := ⟨ab, _, none⟩) (World.block_lt_of_cell? _ _ (HPC.out j hjl))).trans (HPC.out j hjl)
          have HPJ := HP.out j hjl
          have HIJ := HI.out j hjl
          have HBL : Hid (b < w.heap.size ∧ ab < w1.heap.size) := ⟨World.block_lt_of_cell? _ _ (HCL.out w (Below.refl _ _)).1, World.block_lt_of_cell? _ _ (HPC.out j hjl)⟩
          unfold offV at q0 HPJ
          obtain ⟨Q, hQ⟩ : ∃ Q, ((ps[j] : Nat) : Int) - (p : Int) = Q := ⟨_, rfl⟩
          obtain ⟨Z, hZ⟩ : ∃ Z, (E ps[j]).size.toNat + 1 = Z := ⟨_, rfl⟩
          obtain ⟨Y, hY⟩ : ∃ Y, cap - (ps[j] - p) = Y := ⟨_, rfl⟩
          obtain ⟨X, hX⟩ : ∃ X, ps[j] * 3 = X := ⟨_, rfl⟩
          rw [hQ] at q0 HPJ
          rw [hZ, hY, hX] at HPJ HIJ
          clear hQ hZ hY hX
          cases hb : hE (fun x => decide (0 < cnt l m x)) E r ps[j] with
          | true =>
            have HA : Hid (ps.any (hE (fun x => decide (0 < cnt l m x)) E r) = true) := by show _ = _; rw [List.any_eq_true]; exact ⟨ps[j], List.getElem_mem _, hb⟩
            rw [hb] at HIJ
            have HP' : Hid (∀ W, Below w.heap.size w W → Calls Tryz.prog 39 #[.slice (some ⟨b, p * 3, none⟩) len cap, .int .i64 Q] W fun e w' => e = .returned (.slice (some ⟨b, X, none⟩) Z Y) ∧ w' = W) := HPJ
            have HI' : Hid (∀ W, Below w.heap.size w W → Calls Tryz.prog 28 #[.slice (some ⟨b, X, none⟩) Z Y, .slice fa m cp] W fun e w' => e = .returned (.bool true) ∧ Below W.heap.size W w') := HIJ
            clear HPJ HIJ HI HP hb HSF
            go_wp2_with fail
            go_region_held3 (fun w' => w'.cell? ⟨ab, off + j, none⟩ = some (.int .i64 Q) ∧ w'.cell? ⟨b, p * 3, none⟩ = some (.int .i64 6))
              (first | go_keep | (exact ⟨(hl2.cell (p := ⟨ab, _, none⟩) (Nat.lt_of_lt_of_le HBL.out.2 hbel.size)).trans q0, (hl2.cell (p := ⟨b, _, none⟩) (Nat.lt_of_lt_of_le HBL.out.1 HB.size)).trans k0⟩))
              (first
                | ((go_at_call 39; refine (HP'.out _ HB.drew).mono ?_; rintro e wx ⟨rfl, hw⟩; obtain rfl := hw.symm; clear hw))
                | ((go_at_call 28; refine (HI'.out _ HB.drew).mono ?_; rintro e w2 ⟨rfl, hl2⟩)))
            obtain ⟨k0', k1'⟩ := HCL.out w2 (HB.drew.trans (hl2.mono HB.drew.size))
            go_wp2_with fail
            go_ret
            exact ⟨ret_bool HA.out.symm, HB.drew.trans (hl2.mono HB.drew.size)⟩
          | false =>
            rw [hb] at HIJ
            have HP' : Hid (∀ W, Below w.heap.size w W → Calls Tryz.prog 39 #[.slice (some ⟨b, p * 3, none⟩) len cap, .int .i64 Q] W fun e w' => e = .returned (.slice (some ⟨b, X, none⟩) Z Y) ∧ w' = W) := HPJ
            have HI' : Hid (∀ W, Below w.heap.size w W → Calls Tryz.prog 28 #[.slice (some ⟨b, X, none⟩) Z Y, .slice fa m cp] W fun e w' => e = .returned (.bool false) ∧ Below W.heap.size W w') := HIJ
            have HBJ : Hid (hE (fun x => decide (0 < cnt l m x)) E r ps[j] = false) := hb
            clear HPJ HIJ HI HP hb
            go_wp2_with fail
            go_region_held3 (fun w' => w'.cell? ⟨ab, off + j, none⟩ = some (.int .i64 Q) ∧ w'.cell? ⟨b, p * 3, none⟩ = some (.int .i64 6))
              (first | go_keep | (exact ⟨(hl2.cell (p := ⟨ab, _, none⟩) (Nat.lt_of_lt_of_le HBL.out.2 hbel.size)).trans q0, (hl2.cell (p := ⟨b, _, none⟩) (Nat.lt_of_lt_of_le HBL.out.1 HB.size)).trans k0⟩))
              (first
                | ((go_at_call 39; refine (HP'.out _ HB.drew).mono ?_; rintro e wx ⟨rfl, hw⟩; obtain rfl := hw.symm; clear hw))
                | ((go_at_call 28; refine (HI'.out _ HB.drew).mono ?_; rintro e w2 ⟨rfl, hl2⟩)))
            go_wp2_with fail
            go_roundw
            case rel => exact ⟨j + 1, by omega, by go_num, fun i hi h => by
              rcases Nat.lt_or_ge i j with h' | h'
              · exact HSF.out i hi h'
              · obtain rfl : i = j := by omega
                exact HBJ.out, hbel.drew.trans (hl2.mono hbel.drew.size)⟩
            case measure => simp [intOf]; omega
        · have hjl' : ¬ (j : Int) < (ps.length : Int) := by omega
          have HA : Hid (ps.any (hE (fun x => decide (0 < cnt l m x)) E r) = false) := any_none fun i hi => HSF.out i hi (by omega)
          go_wp2
          go_ret
          exact ⟨ret_bool HA.out.symm, HB⟩
    rw [if_neg h6]
    have h5 : K = 5 := by omega
    subst h5
    go_enter Tryz.func28, Tryz.ntmps28
    go_wp2_with (go_at_call 46; refine HST.out.mono ?_; rintro e w1 ⟨a', cp', rfl, hps, hl1⟩; obtain ⟨c0, c1⟩ := HCL.out w1 hl1)
    obtain ⟨ab, off, hPa, hPc⟩ := hps
    have hPa' : ps.length = 0 ∨ a' = some ⟨ab, off, none⟩ := by rcases hPa with h | h; exact .inl (by simpa using h); exact .inr h.1
    have HPC : Hid (∀ i (h : i < ps.length), w1.cell? ⟨ab, off + i, none⟩ = some (offV p ps[i])) := fun i h => hPc i _ (by simp [h])
    have hs1 := hl1.size
    clear hPa hPc c0 c1
    go_loopw [6] (fun x wr => ∃ j : Nat, j ≤ ps.length ∧ x = .int .i64 (j : Int) ∧ (∀ i (hi : i < ps.length), i < j → hE (fun x => decide (0 < cnt l m x)) E r ps[i] = true) ∧ Below w1.heap.size w1 wr) (fun x _ => ps.length - (intOf x).toNat)
    case atStart => exact ⟨0, Nat.zero_le _, rfl, fun i _ h => by omega, Below.refl _ _⟩
    case round =>
      obtain ⟨j, hj, rfl, hsf, hbel⟩ := hrel
      have HSF : Hid (∀ i (hi : i < ps.length), i < j → hE (fun x => decide (0 < cnt l m x)) E r ps[i] = true) := hsf
      clear hsf
      have HB : Below w.heap.size w wr := hl1.trans (hbel.mono hs1)
      obtain ⟨k0, k1⟩ := HCL.out wr HB
      by_cases hjl : j < ps.length
      · have hjl' : (j : Int) < (ps.length : Int) := by omega
        rcases hPa' with h | rfl
        · omega
        have q0 : wr.cell? ⟨ab, off + j, none⟩ = some (offV p ps[j]) := (hbel.cell (p := ⟨ab, _, none⟩) (World.block_lt_of_cell? _ _ (HPC.out j hjl))).trans (HPC.out j hjl)
        have HPJ := HP.out j hjl
        have HIJ := HI.out j hjl
        have HBL : Hid (b < w.heap.size ∧ ab < w1.heap.size) := ⟨World.block_lt_of_cell? _ _ (HCL.out w (Below.refl _ _)).1, World.block_lt_of_cell? _ _ (HPC.out j hjl)⟩
        unfold offV at q0 HPJ
        obtain ⟨Q, hQ⟩ : ∃ Q, ((ps[j] : Nat) : Int) - (p : Int) = Q := ⟨_, rfl⟩
        obtain ⟨Z, hZ⟩ : ∃ Z, (E ps[j]).size.toNat + 1 = Z := ⟨_, rfl⟩
        obtain ⟨Y, hY⟩ : ∃ Y, cap - (ps[j] - p) = Y := ⟨_, rfl⟩
        obtain ⟨X, hX⟩ : ∃ X, ps[j] * 3 = X := ⟨_, rfl⟩
        rw [hQ] at q0 HPJ
        rw [hZ, hY, hX] at HPJ HIJ
        clear hQ hZ hY hX
        cases hb : hE (fun x => decide (0 < cnt l m x)) E r ps[j] with
        | false =>
          have HA : Hid (ps.all (hE (fun x => decide (0 < cnt l m x)) E r) = false) := all_take hjl hb
          rw [hb] at HIJ
          have HP' : Hid (∀ W, Below w.heap.size w W → Calls Tryz.prog 39 #[.slice (some ⟨b, p * 3, none⟩) len cap, .int .i64 Q] W fun e w' => e = .returned (.slice (some ⟨b, X, none⟩) Z Y) ∧ w' = W) := HPJ
          have HI' : Hid (∀ W, Below w.heap.size w W → Calls Tryz.prog 28 #[.slice (some ⟨b, X, none⟩) Z Y, .slice fa m cp] W fun e w' => e = .returned (.bool false) ∧ Below W.heap.size W w') := HIJ
          clear HPJ HIJ HI HP hb HSF
          go_wp2_with fail
          go_region_held3 (fun w' => w'.cell? ⟨ab, off + j, none⟩ = some (.int .i64 Q) ∧ w'.cell? ⟨b, p * 3, none⟩ = some (.int .i64 5))
            (first | go_keep | (exact ⟨(hl2.cell (p := ⟨ab, _, none⟩) (Nat.lt_of_lt_of_le HBL.out.2 hbel.size)).trans q0, (hl2.cell (p := ⟨b, _, none⟩) (Nat.lt_of_lt_of_le HBL.out.1 HB.size)).trans k0⟩))
            (first
              | ((go_at_call 39; refine (HP'.out _ HB.drew).mono ?_; rintro e wx ⟨rfl, hw⟩; obtain rfl := hw.symm; clear hw))
              | ((go_at_call 28; refine (HI'.out _ HB.drew).mono ?_; rintro e w2 ⟨rfl, hl2⟩)))
          obtain ⟨k0', k1'⟩ := HCL.out w2 (HB.drew.trans (hl2.mono HB.drew.size))
          go_wp2_with fail
          go_ret
          exact ⟨ret_bool HA.out.symm, HB.drew.trans (hl2.mono HB.drew.size)⟩
        | true =>
          rw [hb] at HIJ
          have HP' : Hid (∀ W, Below w.heap.size w W → Calls Tryz.prog 39 #[.slice (some ⟨b, p * 3, none⟩) len cap, .int .i64 Q] W fun e w' => e = .returned (.slice (some ⟨b, X, none⟩) Z Y) ∧ w' = W) := HPJ
          have HI' : Hid (∀ W, Below w.heap.size w W → Calls Tryz.prog 28 #[.slice (some ⟨b, X, none⟩) Z Y, .slice fa m cp] W fun e w' => e = .returned (.bool true) ∧ Below W.heap.size W w') := HIJ
          have HBJ : Hid (hE (fun x => decide (0 < cnt l m x)) E r ps[j] = true) := hb
          clear HPJ HIJ HI HP hb
          go_wp2_with fail
          go_region_held3 (fun w' => w'.cell? ⟨ab, off + j, none⟩ = some (.int .i64 Q) ∧ w'.cell? ⟨b, p * 3, none⟩ = some (.int .i64 5))
            (first | go_keep | (exact ⟨(hl2.cell (p := ⟨ab, _, none⟩) (Nat.lt_of_lt_of_le HBL.out.2 hbel.size)).trans q0, (hl2.cell (p := ⟨b, _, none⟩) (Nat.lt_of_lt_of_le HBL.out.1 HB.size)).trans k0⟩))
            (first
              | ((go_at_call 39; refine (HP'.out _ HB.drew).mono ?_; rintro e wx ⟨rfl, hw⟩; obtain rfl := hw.symm; clear hw))
              | ((go_at_call 28; refine (HI'.out _ HB.drew).mono ?_; rintro e w2 ⟨rfl, hl2⟩)))
          go_wp2_with fail
          go_roundw
          case rel => exact ⟨j + 1, by omega, by go_num, fun i hi h => by
            rcases Nat.lt_or_ge i j with h' | h'
            · exact HSF.out i hi h'
            · obtain rfl : i = j := by omega
              exact HBJ.out, hbel.drew.trans (hl2.mono hbel.drew.size)⟩
          case measure => simp [intOf]; omega
      · have hjl' : ¬ (j : Int) < (ps.length : Int) := by omega
        have HA : Hid (ps.all (hE (fun x => decide (0 < cnt l m x)) E r) = true) := all_each fun i hi => HSF.out i hi (by omega)
        go_wp2
        go_ret
        exact ⟨ret_bool HA.out.symm, HB⟩

end Go.Proofs.YtnhddnfobcofcaaGreatDoor.cd

namespace Go.Proofs.YtnhddnfobcofcaaGreatDoor.cd
open Go.ChangeShapes Go.WideShapes Go.ChangeAt Go.RowKit Go.Deep Go.Maps
set_option linter.unusedVariables false
set_option linter.unusedSimpArgs false

set_option maxRecDepth 100000 in
set_option maxHeartbeats 1000000 in
theorem sholds_any (E : Nat → Cn) (b n cap : Nat) (hcap : n ≤ cap ∧ cap ≤ 9223372036854775807) (hn : n ≤ 1048576) (hs : ∀ i, i < n → (E i).name.size ≤ 1048576) (l : List ByteArray) (a : Option Addr) (m cp : Nat) (hm : m ≤ 1048576) (w : World) (hX : XsB w b n E) (hL : st.Ss w a m l) :
    Calls Tryz.prog 13 #[.slice (some ⟨b, 0, none⟩) n cap, .slice a m cp] w fun e w' => e = .returned (.bool (okAll E n && (decide (m ≤ 2000) && hE (fun x => decide (0 < cnt l m x)) E 61 0))) ∧ Below w.heap.size w w' := by
  have HO : Hid (∀ W, W = w → Calls Tryz.prog 7 #[.slice (some ⟨b, 0, none⟩) n cap] W fun e w' => e = .returned (.bool (okAll E n)) ∧ w' = W) := fun W h => by subst h; exact sok_any E b n cap hcap hn hs W hX
  cases hok : okAll E n with
  | false =>
    rw [hok] at HO
    clear hX hok
    go_enter Tryz.func13, Tryz.ntmps13
    go_wp2_with (go_at_call 7; refine (HO.out _ rfl).mono ?_; rintro e wx ⟨rfl, hw⟩; obtain rfl := hw.symm; clear hw)
    go_ret
    exact ⟨rfl, Below.refl _ _⟩
  | true =>
    rw [hok] at HO
    have hn0 : 0 < n ∧ n ≤ 300 := by
      unfold okAll at hok
      simp only [Bool.and_eq_true, decide_eq_true_eq] at hok
      exact hok.1
    have HH0 := sh_any E b n (by omega) hs l a m cp hm 61 0 n cap w hX hL hn0.1 (by omega) hcap.1 hcap.2 (by rw [okAll_eq hn0.1 hn0.2] at hok; exact hok)
    rw [Nat.zero_mul] at HH0
    have HH : Hid (Calls Tryz.prog 28 #[.slice (some ⟨b, 0, none⟩) n cap, .slice a m cp] w fun e w' => e = .returned (.bool (hE (fun x => decide (0 < cnt l m x)) E 61 0)) ∧ Below w.heap.size w w') := HH0
    clear hX hok HH0
    by_cases h2 : m ≤ 2000
    · have h2' : (m : Int) ≤ 2000 := by omega
      rw [decide_eq_true h2]
      go_enter Tryz.func13, Tryz.ntmps13
      go_wp2_with (first
        | (go_at_call 7; refine (HO.out _ rfl).mono ?_; rintro e wx ⟨rfl, hw⟩; obtain rfl := hw.symm; clear hw)
        | (go_at_call 28; refine HH.out.mono ?_; rintro e w1 ⟨rfl, hl1⟩))
      go_ret
      exact ⟨rfl, hl1⟩
    · have h2' : ¬ (m : Int) ≤ 2000 := by omega
      rw [decide_eq_false h2]
      go_enter Tryz.func13, Tryz.ntmps13
      go_wp2_with (go_at_call 7; refine (HO.out _ rfl).mono ?_; rintro e wx ⟨rfl, hw⟩; obtain rfl := hw.symm; clear hw)
      go_ret
      exact ⟨rfl, Below.refl _ _⟩

end Go.Proofs.YtnhddnfobcofcaaGreatDoor.cd

namespace Go.Proofs.YtnhddnfobcofcaaGreatDoor.cr
open Go.ChangeShapes Go.WideShapes Go.ChangeAt Go.RowKit Go.Deep
open cd (Tr Cn infoE)
set_option linter.unusedVariables false
set_option linter.unusedSimpArgs false

/-! ### FnCondBack: plain facts, the law -/

theorem nms_eq (l : List Cn) : ∀ k, k ≤ l.length → fl.nms (cnE l) k = (nmC (l.take k)).map (fun x => x.data.toList)
  | 0, _ => by simp [fl.nms, nmC]
  | k + 1, h => by
    have ih := nms_eq l k (by omega)
    have hk := cnE_some (l := l) (i := k) (by omega)
    rw [fl.nms, ih, List.take_add_one, hk, Option.toList_some, nmC_app, List.map_append]
    by_cases h1 : (cnE l k).kind = 1
    · rw [if_pos h1]
      have e : nmC [cnE l k] = [(cnE l k).name] := by simp [nmC, h1]
      rw [e]; rfl
    · rw [if_neg h1]
      have e : nmC [cnE l k] = [] := by simp [nmC, h1]
      rw [e]; simp
theorem flagsL_eq (l : List Cn) : fl.flagsL (cnE l) l.length = if okL l = true then ((nmC l).map (fun x => x.data.toList)).foldl fl.fadd [] else [] := by
  unfold fl.flagsL
  rw [nms_eq l l.length (Nat.le_refl _), List.take_length]
  rfl
theorem blk_cells {w : World} {g c : Nat} {xs : List (List UInt8)} (h : fl.Blk w g c xs) : ∀ i x, xs[i]? = some x → w.cell? ⟨g, i, none⟩ = some (fl.strL x) := fun i x hx => by
  obtain ⟨cur, hb, hs, ht⟩ := h.row
  have hl := (List.getElem?_eq_some_iff.1 hx).1
  have h1 : (cur.toList.take xs.length)[i]? = some (fl.strL x) := by rw [ht, fl.enc_strL, List.getElem?_map, hx]; rfl
  rw [List.getElem?_take_of_lt hl, Array.getElem?_toList] at h1
  simp only [World.cell?, hb]
  exact h1
/-- All that the law asks, plainly. -/
structure Fin (l p : List Cn) (t : List UInt8) : Prop where
  sh : shO l = t
  len : t.length ≤ 3900
  rc : rcO (bA t) = some l
  pl : plO l = p
  plen : p.length ≤ 300
  pok : okL p = true
  nk : NK p
  twice : plO p = p
  nm4 : Nm4 p
  hE : ∀ F, cd.hE F (cnE p) 61 0 = cd.hE F (cnE l) 61 0
  fls : fl.flagsL (cnE p) p.length = fl.flagsL (cnE l) l.length
theorem fin_of {l : List Cn} (h : okL l = true) (hlf : lfC l ≤ 28) : ∃ p t, Fin l p t := by
  obtain ⟨h1, h2, h3, h4, h5⟩ := okL_tree h
  have hlt : lf (cd.treeP (cnE l) 61 0) ≤ 28 := by rw [← lfC_fl _ h2, h1]; exact hlf
  have hsl := sh_len _ h2
  rw [h1] at hsl
  obtain ⟨p1, p2, p3, p4, p5, p6, p7⟩ := pl_all h (by omega)
  have hpt : TOk (plT l) := pt_ok _ false h2
  have eplO : plO l = fl (plT l) := by
    unfold plO
    rw [if_pos h]
    show (if (fl (plT l)).length ≤ 300 then fl (plT l) else []) = _
    rw [if_pos p1]
  refine ⟨fl (plT l), sh (cd.treeP (cnE l) 61 0), ?_, by omega, ?_, eplO, p1, p2, NK_fl _ hpt p5, ?_, fl_nm4 _ hpt, p7, ?_⟩
  · unfold shO
    rw [if_pos h]
    show (if (sh (cd.treeP (cnE l) 61 0)).length ≤ 4000 then sh (cd.treeP (cnE l) 61 0) else []) = _
    rw [if_pos (by omega)]
  · exact rcO_show h _ (bA_list _) (by rw [bA_size]; omega)
  · unfold plO
    rw [if_pos p2]
    show (if (fl (plT (fl (plT l)))).length ≤ 300 then fl (plT (fl (plT l))) else []) = _
    rw [p4, if_pos p1]
  · rw [flagsL_eq, flagsL_eq, if_pos p2, if_pos h, nmC_fl _ hpt, p6, ← nmC_fl _ h2, h1]
theorem one_true : cd.okAll (cnE [⟨2, bA [], 0⟩]) 1 = true := by
  have h : TOk (.mk 2 (bA []) []) := (TOk_eq _ _ _).2 ⟨fit_const (.inl rfl), by simp⟩
  have e : fl (.mk 2 (bA []) []) = [⟨2, bA [], 0⟩] := by rw [fl_eq]; simp [flL]
  have := (tree_okL h (by unfold Dp; simp) (by rw [e]; simp)).1
  rw [e] at this
  exact this

set_option maxRecDepth 100000 in
set_option maxHeartbeats 8000000 in
theorem cb_law (a : Option Addr) (n cap : Nat) (w : World) (hb : dr.CodeB w a n) (hlt : ∀ x, a = some x → 0 < n → x.block < w.heap.size) :
    Calls Tryz.prog 3 #[.slice a n cap] w fun e w' => e = .returned (.bool true) ∧ Below w.heap.size w w' := by
  by_cases hn : n ≤ 1048576
  rotate_left
  · have hn' : (1048576 : Int) < (n : Int) := by omega
    have hd' : decide (1048576 < (n : Int)) = true := by simpa using hn'
    go_enter Tryz.func3, Tryz.ntmps3
    go_wp2_with (go_at_call 4; refine (big_any _ _ _ _).mono ?_; rintro e w' ⟨rfl, hw⟩; have hw2 := hw.symm; subst hw2; clear hw; rw [hd'])
    go_ret
    exact ⟨rfl, Below.refl _ _⟩
  have hn' : ¬ (1048576 : Int) < (n : Int) := by omega
  have hd' : decide (1048576 < (n : Int)) = false := by simpa using hn'
  have HDW := Lib.hid (dh_any a n cap w hb hn hlt)
  clear hb hlt
  go_enter Tryz.func3, Tryz.ntmps3
  go_wp2_with (go_at_call 4; refine (big_any _ _ _ _).mono ?_; rintro e w' ⟨rfl, hw⟩; have hw2 := hw.symm; subst hw2; clear hw; rw [hd'])
  go_wp2_with (go_at_call 5; refine HDW.out.mono ?_; rintro e w1 ⟨⟨g, cp, l, fa, m, fc, fs, rfl, hdh⟩, hb1⟩; refine Hid.out ?_)
  refine Lib.hid ?_
  have HB1 : Hid (Below w.heap.size w w1) := hb1
  have HDH := Lib.hid hdh
  clear hb1 hdh HDW hn hn' hd'
  obtain ⟨L, hL⟩ : ∃ L, l.length = L := ⟨_, rfl⟩
  have HL := Lib.hid hL
  have HLS : Hid (L ≤ 300) := by show _ ≤ _; rw [← hL]; exact HDH.out.few
  have HCAP : Hid (L ≤ cp ∧ cp ≤ 9223372036854775807) := by show _ ∧ _; rw [← hL]; exact ⟨HDH.out.lc.2.1, Nat.le_trans HDH.out.lc.2.2 (by unfold maxLen; omega)⟩
  have HSZ : Hid (∀ i, i < L → (cnE l i).name.size ≤ 1048576) := fun i hi => HDH.out.nm.at i (by rw [HL.out]; exact hi)
  have HX : Hid (∀ W, Below w1.heap.size w1 W → cd.XsB W g L (cnE l)) := fun W h => by rw [← HL.out]; exact HDH.out.lc.1.below h
  have HSS : Hid (∀ W, Below w1.heap.size w1 W → st.Ss W fa m fs) := fun W h => by
    rcases HDH.out.fl with h0 | ⟨b, off, e, hc⟩
    · exact .inl h0
    · exact .inr ⟨b, off, e, fun i hi => (h.cell (p := ⟨b, off + i, none⟩) (World.block_lt_of_cell? _ _ (hc i hi))).trans (hc i hi)⟩
  have HSHOW : Hid (Calls Tryz.prog 6 #[.slice (some ⟨g, 0, none⟩) L cp] w1 fun e w' => e = .returned (.string (bA (shO l))) ∧ Below w1.heap.size w1 w') := by
    have := ishow_any l g cp w1 HDH.out.lc (by rw [HL.out]; have := HLS.out; omega) HDH.out.nm
    rw [HL.out] at this
    exact this
  rw [hL]
  clear hL
  go_wp2_with (go_at_call 6; refine HSHOW.out.mono ?_; rintro e w2 ⟨rfl, hb2⟩; refine Hid.out ?_)
  refine Lib.hid ?_
  have HB2 := Lib.hid hb2
  clear hb2 HSHOW
  have HSOK := Lib.hid (cd.sok_any (cnE l) g L cp HCAP.out (by have := HLS.out; omega) HSZ.out w2 (HX.out _ HB2.out))
  have HOK : Hid (cd.okAll (cnE l) L = okL l) := by show _ = _; rw [← HL.out]; rfl
  cases hk : okL l with
  | false =>
    rw [HOK.out, hk] at HSOK
    have HE : Hid ((bA (shO l)) = ⟨#[]⟩) := by show _ = _; unfold shO; rw [hk]; rfl
    rw [HE.out]
    clear hk
    go_wp2_with (go_at_call 7; refine HSOK.out.mono ?_; rintro e w3 ⟨rfl, hw⟩; have hw2 := hw.symm; subst hw2; clear hw; refine Hid.out ?_)
    refine Lib.hid ?_
    have HONE : Hid (Calls Tryz.prog 8 #[.slice (some ⟨w2.heap.size, 0, none⟩) 1 1] (w2.alloc (.cells #[.int .i64 2, .string ⟨#[]⟩, .int .i64 0] 31)) fun e w' => e = .returned (.bool true) ∧ Below w2.heap.size w2 w') := by
      have := cd.iok_any (cnE [⟨2, bA [], 0⟩]) w2.heap.size 1 1 ⟨Nat.le_refl _, by decide⟩ (by decide) (fun i hi => by obtain rfl : i = 0 := (by omega); decide) (w2.alloc (.cells #[.int .i64 2, .string ⟨#[]⟩, .int .i64 0] 31)) ((OC.one w2 ⟨2, bA [], 0⟩).xs).1
      rw [one_true] at this
      exact this.mono fun e w' ⟨h1, h2⟩ => ⟨h1, ((Below.refl _ _).alloc (Nat.le_refl _) _).trans (h2.mono (by simp))⟩
    clear HSOK
    go_wp2_with (go_at_call 8; refine HONE.out.mono ?_; rintro e w4 ⟨rfl, hb4⟩; refine Hid.out ?_)
    refine Lib.hid ?_
    have HF : Hid (Below w.heap.size w w4) := (HB1.out.trans (HB2.out.mono HB1.out.size)).trans (hb4.mono (HB1.out.trans (HB2.out.mono HB1.out.size)).size)
    clear hb4
    go_wp2
    go_ret
    exact ⟨rfl, HF.out⟩
  | true =>
    rw [HOK.out, hk] at HSOK
    have HK : Hid (cd.okAll (cnE l) L = true) := HOK.out.trans hk
    obtain ⟨p, t, hfin⟩ := fin_of hk HDH.out.lf
    have HFIN := Lib.hid hfin
    rw [hfin.sh]
    clear hk hfin
    go_wp2_with (go_at_call 7; refine HSOK.out.mono ?_; rintro e w3 ⟨rfl, hw⟩; have hw2 := hw.symm; subst hw2; clear hw; refine Hid.out ?_)
    refine Lib.hid ?_
    obtain ⟨S, hS⟩ : ∃ S, bA t = S := ⟨_, rfl⟩
    have HSS9 : Hid (S.size ≤ 3900) := by show _ ≤ _; rw [← hS, bA_size]; exact HFIN.out.len
    have HRC : Hid (rcL S = l ∧ rcK S = true) := by
      have := HFIN.out.rc
      rw [hS] at this
      exact ⟨by unfold rcL; rw [this]; rfl, by unfold rcK; rw [this]; rfl⟩
    rw [hS]
    have HIR : Hid (Calls Tryz.prog 9 #[.string S] w2 fun e w' => (∃ g' c', e = .returned (.tuple #[.slice (some ⟨g', 0, none⟩) L c', .bool true]) ∧ cd.XsB w' g' L (cnE l)) ∧ Below w2.heap.size w2 w') := (iread_any S w2 (by have := HSS9.out; omega)).mono fun e w' ⟨⟨g', c', h1, h2⟩, h3⟩ => by
      rw [HRC.out.1, HRC.out.2, HL.out] at h1
      rw [HRC.out.1] at h2
      have := h2.xs.1
      rw [HL.out] at this
      exact ⟨⟨g', c', h1, this⟩, h3⟩
    clear HSOK hS
    go_wp2_with (go_at_call 9; refine HIR.out.mono ?_; rintro e w3 ⟨⟨g3, c3, rfl, hx3⟩, hb3⟩; refine Hid.out ?_)
    refine Lib.hid ?_
    have HB3 : Hid (Below w1.heap.size w1 w3) := HB2.out.trans (hb3.mono HB2.out.size)
    have HX3 : Hid (∀ W, Below w3.heap.size w3 W → cd.XsB W g3 L (cnE l)) := fun W h => hx3.below h
    have HPL : Hid (Calls Tryz.prog 10 #[.slice (some ⟨g, 0, none⟩) L cp] w3 fun e w' => PnR p w3 w' e ∧ Below w3.heap.size w3 w') := by
      have := iplain_any l g cp w3 (HDH.out.lc.below HB3.out) (by rw [HL.out]; have := HLS.out; omega) HDH.out.nm
      rw [HL.out, HFIN.out.pl] at this
      exact this
    clear hx3 hb3 HIR
    go_wp2_with (go_at_call 10; refine HPL.out.mono ?_; rintro e w4 ⟨⟨g4, c4, rfl, ho4⟩, hb4⟩; refine Hid.out ?_)
    refine Lib.hid ?_
    have HB34 := Lib.hid hb4
    have HB4 : Hid (Below w1.heap.size w1 w4) := HB3.out.trans (hb4.mono HB3.out.size)
    have HP := Lib.hid ho4.xs
    obtain ⟨M, hM⟩ : ∃ M, p.length = M := ⟨_, rfl⟩
    have HM := Lib.hid hM
    have HMS : Hid (M ≤ 300) := by show _ ≤ _; rw [← hM]; exact HFIN.out.plen
    have HXP : Hid (∀ W, Below w4.heap.size w4 W → cd.XsB W g4 M (cnE p)) := fun W h => by rw [← HM.out]; exact HP.out.1.below h
    have HCP : Hid (M ≤ c4 ∧ c4 ≤ 9223372036854775807) := by show _ ∧ _; rw [← hM]; exact ⟨HP.out.2.1, Nat.le_trans HP.out.2.2 (by unfold maxLen; omega)⟩
    have HSZP : Hid (∀ i, i < M → (cnE p i).name.size ≤ 1048576) := fun i hi => HFIN.out.nm4.at i (by rw [HM.out]; exact hi)
    rw [hM]
    have HSC : Hid (Calls Tryz.prog 11 #[.slice (some ⟨g, 0, none⟩) L cp, .slice (some ⟨g3, 0, none⟩) L c3] w4 fun e w' => e = .returned (.bool true) ∧ Below w4.heap.size w4 w') := by
      have := same_cond g cp g3 c3 l w4 (by rw [HL.out]; exact HX.out _ HB4.out) (by rw [HL.out]; exact HX3.out _ HB34.out) (by rw [HL.out]; have := HLS.out; omega)
      rw [HL.out] at this
      exact this
    obtain ⟨Z, hZ⟩ : ∃ Z, S.size = Z := ⟨_, rfl⟩
    have hz4 : (Z : Int) ≤ 4000 := by have := HSS9.out; omega
    have hz4' : Z ≤ 4000 := by have := HSS9.out; omega
    clear ho4 hb4 hM HPL
    go_wp2_with (go_at_call 11; refine HSC.out.mono ?_; rintro e w5 ⟨rfl, hb5⟩; refine Hid.out ?_)
    refine Lib.hid ?_
    have HB5 := Lib.hid hb5
    have HSP := Lib.hid (cd.sok_any (cnE p) g4 M c4 HCP.out (by have := HMS.out; omega) HSZP.out w5 (HXP.out _ HB5.out))
    rw [show cd.okAll (cnE p) M = true by rw [← HM.out]; exact HFIN.out.pok] at HSP
    clear hb5 HSC
    go_wp2_with (go_at_call 7; refine HSP.out.mono ?_; rintro e w6 ⟨rfl, hw⟩; have hw2 := hw.symm; subst hw2; clear hw; refine Hid.out ?_)
    refine Lib.hid ?_
    clear HSP
    have HBP5 := Lib.hid HB5.out
    go_wp2
    go_loop [9] (fun x => ∃ i : Nat, i ≤ M ∧ x = .int .i64 (i : Int)) (fun x => M - (intOf x).toNat)
    case atStart => exact ⟨0, Nat.zero_le _, rfl⟩
    case round =>
      obtain ⟨i, hi, rfl⟩ := hrel
      by_cases hil : i < M
      · have hil' : (i : Int) < (M : Int) := by omega
        have hi0 : (0 : Int) ≤ (i : Int) := by omega
        obtain ⟨k0, k1, k2⟩ := HXP.out w5 HBP5.out i hil
        obtain ⟨K, hK⟩ : ∃ K, (cnE p i).kind = K := ⟨_, rfl⟩
        rw [hK] at k0
        by_cases h4 : K = 4
        · subst h4
          obtain ⟨d, hd, hd1⟩ := HFIN.out.nk i _ (cnE_some (by rw [HM.out]; exact hil)) hK
          have hi1 : i + 1 < M := by rw [← HM.out]; exact (List.getElem?_eq_some_iff.1 hd).1
          obtain ⟨m0, m1, m2⟩ := HXP.out w5 HBP5.out (i + 1) hi1
          have hdk : (cnE p (i + 1)).kind = 1 := by
            have := cnE_some (l := p) (i := i + 1) (by rw [HM.out]; exact hi1)
            rw [hd] at this
            rw [← Option.some.inj this]; exact hd1
          rw [hdk] at m0
          have hi1' : (i : Int) + 1 < (M : Int) := by omega
          have hi10 : (0 : Int) ≤ (i : Int) + 1 := by omega
          have hwi : IntKind.i64.wrap ((i : Int) + 1) = (i : Int) + 1 := by rw [IntKind.wrap_i64]; have := HMS.out; omega
          clear hd hd1 hdk hK k1 k2 m1 m2
          go_wp2
          go_round
          case rel => exact ⟨i + 1, by omega, by go_num⟩
          case measure => simp [intOf]; omega
        · have hK4 : ¬ K = 4 := h4
          have hMb : M ≤ 300 := HMS.out
          clear hK k1 k2
          go_wp2
          go_round
          case rel => exact ⟨i + 1, by omega, by go_num⟩
          case measure => simp [intOf]; omega
      · have hil' : ¬ (i : Int) < (M : Int) := by omega
        obtain ⟨V, hV⟩ : ∃ V, (decide (m ≤ 2000) && cd.hE (fun x => decide (0 < cd.cnt fs m x)) (cnE l) 61 0) = V := ⟨_, rfl⟩
        have HB45 : Hid (Below w1.heap.size w1 w5) := HB4.out.trans (HBP5.out.mono HB4.out.size)
        have HHL : Hid (∀ W, Below w1.heap.size w1 W → Calls Tryz.prog 12 #[.slice (some ⟨g, 0, none⟩) L cp, .slice fa m fc] W fun e w' => e = .returned (.bool V) ∧ Below W.heap.size W w') := fun W h => by
          have := cd.iholds_any (cnE l) g L cp HCAP.out (by have := HLS.out; omega) HSZ.out fs fa m fc (by have := HDH.out.fm; omega) HDH.out.fz W (HX.out W h) (HSS.out W h)
          rw [HK.out, hV, Bool.true_and] at this
          exact this
        have HSL : Hid (∀ W, Below w1.heap.size w1 W → Calls Tryz.prog 13 #[.slice (some ⟨g, 0, none⟩) L cp, .slice fa m fc] W fun e w' => e = .returned (.bool V) ∧ Below W.heap.size W w') := fun W h => by
          have := cd.sholds_any (cnE l) g L cp HCAP.out (by have := HLS.out; omega) HSZ.out fs fa m fc (by have := HDH.out.fm; omega) W (HX.out W h) (HSS.out W h)
          rw [HK.out, hV, Bool.true_and] at this
          exact this
        have HKP : Hid (cd.okAll (cnE p) M = true) := by show _ = _; rw [← HM.out]; exact HFIN.out.pok
        have HHP : Hid (∀ W, Below w4.heap.size w4 W → Calls Tryz.prog 12 #[.slice (some ⟨g4, 0, none⟩) M c4, .slice fa m fc] W fun e w' => e = .returned (.bool V) ∧ Below W.heap.size W w') := fun W h => by
          have := cd.iholds_any (cnE p) g4 M c4 HCP.out (by have := HMS.out; omega) HSZP.out fs fa m fc (by have := HDH.out.fm; omega) HDH.out.fz W (HXP.out W h) (HSS.out W (HB4.out.trans (h.mono HB4.out.size)))
          rw [HKP.out, HFIN.out.hE, hV, Bool.true_and] at this
          exact this
        have HPP : Hid (∀ W, Below w4.heap.size w4 W → Calls Tryz.prog 10 #[.slice (some ⟨g4, 0, none⟩) M c4] W fun e w' => (∃ g' c', e = .returned (.slice (some ⟨g', 0, none⟩) M c') ∧ cd.XsB w' g' M (cnE p)) ∧ Below W.heap.size W w') := fun W h => by
          have := iplain_any p g4 c4 W (by have := HP.out; exact ⟨this.1.below h, this.2⟩) (by rw [HM.out]; have := HMS.out; omega) HFIN.out.nm4
          rw [HM.out, HFIN.out.twice] at this
          refine this.mono fun e w' ⟨⟨g', c', h1, h2⟩, h3⟩ => ?_
          rw [HM.out] at h1
          have := h2.xs.1
          rw [HM.out] at this
          exact ⟨⟨g', c', h1, this⟩, h3⟩
        have HSM : Hid (∀ (g' c' : Nat) (W : World), cd.XsB W g' M (cnE p) → Below w4.heap.size w4 W → Calls Tryz.prog 11 #[.slice (some ⟨g', 0, none⟩) M c', .slice (some ⟨g4, 0, none⟩) M c4] W fun e w' => e = .returned (.bool true) ∧ Below W.heap.size W w') := fun g' c' W h1 h2 => by
          have := same_cond g' c' g4 c4 p W (by rw [HM.out]; exact h1) (by rw [HM.out]; exact HXP.out W h2) (by rw [HM.out]; have := HMS.out; omega)
          rw [HM.out] at this
          exact this
        obtain ⟨F, hF⟩ : ∃ F, fl.flagsL (cnE l) L = F := ⟨_, rfl⟩
        have HFF : Hid (F.length ≤ 300) := by show _ ≤ _; rw [← hF]; exact fl.flags_few _ _
        have HFL : Hid (∀ W, Below w1.heap.size w1 W → Calls Tryz.prog 15 #[.slice (some ⟨g, 0, none⟩) L cp] W fun e w' => (∃ g' c', e = .returned (.slice (some ⟨g', 0, none⟩) F.length c') ∧ ∀ i x, F[i]? = some x → w'.cell? ⟨g', i, none⟩ = some (fl.strL x)) ∧ Below W.heap.size W w') := fun W h => by
          have := fl.iflags_any (cnE l) g L cp HCAP.out (by have := HLS.out; omega) HSZ.out W (HX.out W h)
          rw [hF] at this
          exact this.mono fun e w' ⟨g', c', h1, _, h2, h3⟩ => ⟨⟨g', c', h1, blk_cells h2⟩, h3⟩
        have HFP : Hid (∀ W, Below w4.heap.size w4 W → Calls Tryz.prog 15 #[.slice (some ⟨g4, 0, none⟩) M c4] W fun e w' => (∃ g' c', e = .returned (.slice (some ⟨g', 0, none⟩) F.length c') ∧ ∀ i x, F[i]? = some x → w'.cell? ⟨g', i, none⟩ = some (fl.strL x)) ∧ Below W.heap.size W w') := fun W h => by
          have := fl.iflags_any (cnE p) g4 M c4 HCP.out (by have := HMS.out; omega) HSZP.out W (HXP.out W h)
          have e := HFIN.out.fls
          rw [HM.out, HL.out, hF] at e
          rw [e] at this
          exact this.mono fun e w' ⟨g', c', h1, _, h2, h3⟩ => ⟨⟨g', c', h1, blk_cells h2⟩, h3⟩
        clear hV hF hil
        go_wp2_with (go_at_call 12; refine (HHL.out _ HB45.out).mono ?_; rintro e w6 ⟨rfl, hb6⟩; refine Hid.out ?_)
        refine Lib.hid ?_
        have HB6 : Hid (Below w4.heap.size w4 w6) := HBP5.out.trans (hb6.mono HBP5.out.size)
        have HB46 : Hid (Below w1.heap.size w1 w6) := HB4.out.trans (HB6.out.mono HB4.out.size)
        clear hb6
        go_wp2_with (go_at_call 13; refine (HSL.out _ HB46.out).mono ?_; rintro e w7 ⟨rfl, hb7⟩; refine Hid.out ?_)
        refine Lib.hid ?_
        have HB7 : Hid (Below w4.heap.size w4 w7) := HB6.out.trans (hb7.mono HB6.out.size)
        clear hb7
        go_wp2_with (go_at_call 12; refine (HHP.out _ HB7.out).mono ?_; rintro e w8 ⟨rfl, hb8⟩; refine Hid.out ?_)
        refine Lib.hid ?_
        have HB8 : Hid (Below w4.heap.size w4 w8) := HB7.out.trans (hb8.mono HB7.out.size)
        have HB48 : Hid (Below w1.heap.size w1 w8) := HB4.out.trans (HB8.out.mono HB4.out.size)
        clear hb8
        go_wp2_with (go_at_call 12; refine (HHL.out _ HB48.out).mono ?_; rintro e w9 ⟨rfl, hb9⟩; refine Hid.out ?_)
        refine Lib.hid ?_
        have HB9 : Hid (Below w4.heap.size w4 w9) := HB8.out.trans (hb9.mono HB8.out.size)
        clear hb9
        go_wp2_with (go_at_call 10; refine (HPP.out _ HB9.out).mono ?_; rintro e w10 ⟨⟨g5, c5, rfl, hx5⟩, hb10⟩; refine Hid.out ?_)
        refine Lib.hid ?_
        have HB10 : Hid (Below w4.heap.size w4 w10) := HB9.out.trans (hb10.mono HB9.out.size)
        have HSM5 := Lib.hid (HSM.out g5 c5 w10 hx5 HB10.out)
        clear hb10 hx5
        go_wp2_with (go_at_call 11; refine HSM5.out.mono ?_; rintro e w11 ⟨rfl, hb11⟩; refine Hid.out ?_)
        refine Lib.hid ?_
        have HB11 : Hid (Below w4.heap.size w4 w11) := HB10.out.trans (hb11.mono HB10.out.size)
        clear hb11 HSM5
        go_wp2_with (go_at_call 15; refine (HFP.out _ HB11.out).mono ?_; rintro e w12 ⟨⟨g6, c6, rfl, hx6⟩, hb12⟩; refine Hid.out ?_)
        refine Lib.hid ?_
        have HB12 : Hid (Below w4.heap.size w4 w12) := HB11.out.trans (hb12.mono HB11.out.size)
        have HB412 : Hid (Below w1.heap.size w1 w12) := HB4.out.trans (HB12.out.mono HB4.out.size)
        have HX6 : Hid (∀ i x, F[i]? = some x → w12.cell? ⟨g6, i, none⟩ = some (fl.strL x)) := hx6
        clear hb12 hx6
        go_wp2_with (go_at_call 15; refine (HFL.out _ HB412.out).mono ?_; rintro e w13 ⟨⟨g7, c7, rfl, hx7⟩, hb13⟩; refine Hid.out ?_)
        refine Lib.hid ?_
        have HB13 : Hid (Below w4.heap.size w4 w13) := HB12.out.trans (hb13.mono HB12.out.size)
        have HST := Lib.hid (same_texts F g6 c6 g7 c7 w13 (by have := HFF.out; omega) (fun i x hx => (hb13.cell (p := ⟨g6, i, none⟩) (World.block_lt_of_cell? _ _ (HX6.out i x hx))).trans (HX6.out i x hx)) hx7)
        clear hb13 hx7
        go_wp2_with (go_at_call 14; refine HST.out.mono ?_; rintro e w14 ⟨rfl, hb14⟩; refine Hid.out ?_)
        refine Lib.hid ?_
        have HB14 : Hid (Below w4.heap.size w4 w14) := HB13.out.trans (hb14.mono HB13.out.size)
        have HF9 : Hid (Below w.heap.size w w14) := HB1.out.trans ((HB4.out.trans (HB14.out.mono HB4.out.size)).mono HB1.out.size)
        clear hb14
        go_wp2
        go_ret
        exact ⟨rfl, HF9.out⟩
end Go.Proofs.YtnhddnfobcofcaaGreatDoor.cr
