import Derived.Test.YtgpfnldoiaigdaaCG
namespace Go.Proofs.Ytgpfnldoiaigdaa.cd
open Go.ChangeShapes Go.WideShapes Go.ChangeAt Go.RowKit Go.Deep Go.Maps
set_option linter.unusedVariables false
set_option linter.unusedSimpArgs false

theorem PsI {w : World} {base e n : Nat} {v : Value} {l : List Value} (h : w.ownsRow base e 1 v n l) : ∃ a cap, v = .slice a n cap ∧ l.length = n ∧ PsO w (Btw base w.heap.size) a l := by
  obtain ⟨hl, a, cap, e, _, _, hp⟩ := PsO.own h
  exact ⟨a, cap, e, hl, hp⟩

set_option maxRecDepth 100000 in
set_option maxHeartbeats 8000000 in
theorem sh_any (E : Nat → Cn) (b n : Nat) (hn : n ≤ 3000) (hs : ∀ i, i < n → (E i).name.size ≤ 1048576) (l : List ByteArray) (fa : Option Addr) (m cp : Nat) (hm : m ≤ 1048576) : ∀ (r p len cap : Nat) (w : World), XsB w b n E → st.Ss w fa m l → 0 < len → p + len ≤ n → len ≤ cap → cap ≤ 1099511627776 → ok E r p len = true →
    Calls Try.prog 14 #[.slice (some ⟨b, p * 3, none⟩) len cap, .slice fa m cp] w fun e w' => e = .returned (.bool (hE (fun x => decide (0 < cnt l m x)) E r p)) ∧ Below w.heap.size w w' := by
  intro r
  induction r with
  | zero => intro p len cap w _ _ _ _ _ _ h; cases h
  | succ r ih =>
    intro p len cap w hX hL hlen hp hc hcap hok
    obtain ⟨hz, ps, hcp, hall, hfit⟩ := ok_parts hok
    obtain ⟨hk, hk4⟩ := fit_kind hfit
    obtain ⟨hfits, hpl⟩ := cut_fits _ _ _ hcp
    have hsp := hs p (by omega)
    have hl0 : (0 : Int) < (len : Int) := by omega
    have HE : hE (fun x => decide (0 < cnt l m x)) E (r + 1) p = (if (E p).kind = 1 then decide (0 < cnt l m (E p).name.data.toList) else if (E p).kind = 2 then true else if (E p).kind = 3 then false
      else if (E p).kind = 4 then !(hE (fun x => decide (0 < cnt l m x)) E r (p + 1))
      else if (E p).kind = 6 then ps.any (hE (fun x => decide (0 < cnt l m x)) E r) else ps.all (hE (fun x => decide (0 < cnt l m x)) E r)) := by
      rw [hE, show (E p).size.toNat = len - 1 by omega, hcp]; rfl
    have HST : Hid (Calls Try.prog 21 #[.slice (some ⟨b, p * 3, none⟩) len cap] w fun e w' => ∃ a' cp', e = .returned (.slice a' ps.length cp') ∧ PsO w' (Btw w.heap.size w'.heap.size) a' (ps.map (offV p)) ∧ Below w.heap.size w w') := (starts_any E b n p len cap ps w hX hlen hp hn hz hcp).mono (by
      rintro e w' ⟨v, rfl, ho, hl⟩
      obtain ⟨a', cp', rfl, _, hp'⟩ := PsI ho
      exact ⟨a', cp', rfl, hp', hl⟩)
    have HI : Hid (∀ i (h : i < ps.length) W, Below w.heap.size w W → Calls Try.prog 14 #[.slice (some ⟨b, ps[i] * 3, none⟩) ((E ps[i]).size.toNat + 1) (cap - (ps[i] - p)), .slice fa m cp] W fun e w' => e = .returned (.bool (hE (fun x => decide (0 < cnt l m x)) E r ps[i])) ∧ Below W.heap.size W w') := fun i h W hb => by
      obtain ⟨f1, f2, f3⟩ := hfits _ (List.getElem_mem h)
      exact ih ps[i] ((E ps[i]).size.toNat + 1) (cap - (ps[i] - p)) W (hX.below hb) (hL.below hb) (by omega) (by omega) (by omega) (by omega) (hall _ (List.getElem_mem h))
    have HP : Hid (∀ i (h : i < ps.length) W, Below w.heap.size w W → Calls Try.prog 23 #[.slice (some ⟨b, p * 3, none⟩) len cap, offV p ps[i]] W fun e w' => e = .returned (.slice (some ⟨b, ps[i] * 3, none⟩) ((E ps[i]).size.toNat + 1) (cap - (ps[i] - p))) ∧ w' = W) := fun i h W hb => by
      obtain ⟨f1, f2, f3⟩ := hfits _ (List.getElem_mem h)
      have := part_any E b n p len cap (ps[i] - p) (E ps[i]).size.toNat W (hX.below hb) hp hn ⟨hc, hcap⟩ (by omega) (by rw [show p + (ps[i] - p) = ps[i] by omega]; omega) (by omega)
      rw [show p + (ps[i] - p) = ps[i] by omega] at this
      have ev : offV p ps[i] = .int .i64 ((ps[i] - p : Nat) : Int) := by unfold offV; congr 1; omega
      rw [ev]
      exact this
    have HHD : Hid (0 < ps.length → ps[0]? = some (p + 1)) := cut_head hcp
    have HFT : Hid (∀ q ∈ ps, Fits E (p + 1) (p + 1 + (len - 1)) q) := hfits
    have HCL : Hid (∀ W, Below w.heap.size w W → W.cell? ⟨b, p * 3, none⟩ = some (.int .i64 (E p).kind) ∧ W.cell? ⟨b, p * 3 + 1, none⟩ = some (.string (E p).name)) := fun W hb => by
      obtain ⟨a1, a2, _⟩ := (hX.below hb) p (by omega)
      exact ⟨a1, a2⟩
    have HLB : Hid (∀ W, Below w.heap.size w W → st.Ss W fa m l) := fun W hb => hL.below hb
    have HONE : Hid (ps.length = 1 → ∀ W, Below w.heap.size w W → ∀ (a1 : Option Addr), a1 = some ⟨b, (p + 1) * 3, none⟩ → Calls Try.prog 14 #[.slice a1 (len - 1) (cap - 1), .slice fa m cp] W fun e w' => e = .returned (.bool (hE (fun x => decide (0 < cnt l m x)) E r (p + 1))) ∧ Below W.heap.size W w') := fun h1 W hb a1 ha1 => by
      have e0 := cut_head hcp (by omega)
      obtain ⟨f1, f2, f3⟩ := hfits (p + 1) (List.mem_of_getElem? e0)
      have hlast : (E (p + 1)).size.toNat + 1 = len - 1 := by
        have hc2 := hcp
        rw [cut_step (by omega) (by omega), Option.map_eq_some_iff] at hc2
        obtain ⟨qs, hq, hqe⟩ := hc2
        have : qs = [] := by
          have := congrArg List.length hqe
          rw [h1] at this
          exact List.length_eq_zero_iff.1 (by simpa using this)
        rw [this] at hq
        rcases Nat.eq_zero_or_pos (len - 1 - ((E (p + 1)).size.toNat + 1)) with h | h
        · omega
        · rw [cutP, dif_neg (by omega)] at hq
          split at hq
          · cases hq
          · obtain ⟨_, _, h⟩ := Option.map_eq_some_iff.1 hq
            cases h
      rw [ha1, ← hlast]
      have := ih (p + 1) ((E (p + 1)).size.toNat + 1) (cap - 1) W (hX.below hb) (hL.below hb) (by omega) (by omega) (by omega) (by omega) (hall _ (List.mem_of_getElem? e0))
      exact this
    have hpb : ps.length ≤ 3000 := by omega
    clear ih hall hfit hfits hcp hok hX hL hpl hz
    rw [HE]
    clear HE
    generalize (E p).kind = K at *
    generalize (E p).name = T at *
    by_cases h1 : K = 1
    · subst h1
      simp only [if_true]
      go_enter Try.func14, Try.ntmps14
      go_wp2_with (first
        | (go_at_call 21; refine HST.out.mono ?_; rintro e w1 ⟨a', cp', rfl, hps, hl1⟩; obtain ⟨c0, c1⟩ := HCL.out w1 hl1)
        | (go_at_call 22; refine (has_any l fa m cp T hm _ (HLB.out w1 hl1)).mono ?_; rintro e wx ⟨rfl, hw⟩; obtain rfl := hw.symm; clear hw))
      go_ret
      exact ⟨rfl, hl1⟩
    rw [if_neg h1]
    by_cases h2 : K = 2
    · subst h2
      simp only [if_true]
      go_enter Try.func14, Try.ntmps14
      go_wp2_with (go_at_call 21; refine HST.out.mono ?_; rintro e w1 ⟨a', cp', rfl, hps, hl1⟩; obtain ⟨c0, c1⟩ := HCL.out w1 hl1)
      go_ret
      exact ⟨rfl, hl1⟩
    rw [if_neg h2]
    by_cases h3 : K = 3
    · subst h3
      simp only [if_true]
      go_enter Try.func14, Try.ntmps14
      go_wp2_with (go_at_call 21; refine HST.out.mono ?_; rintro e w1 ⟨a', cp', rfl, hps, hl1⟩; obtain ⟨c0, c1⟩ := HCL.out w1 hl1)
      go_ret
      exact ⟨rfl, hl1⟩
    rw [if_neg h3]
    by_cases h4 : K = 4
    · subst h4
      simp only [if_true]
      have hL1 := hk4 rfl
      obtain ⟨a1, ha1⟩ : ∃ a1, (if cap = 1 then some (⟨b, p * 3, none⟩ : Addr) else some ⟨b, p * 3 + 3, none⟩) = a1 := ⟨_, rfl⟩
      obtain ⟨f1, f2, f3⟩ := HFT.out (p + 1) (List.mem_of_getElem? (HHD.out (by omega)))
      have HA1 : Hid (a1 = some ⟨b, (p + 1) * 3, none⟩) := by
        show _ = _
        rw [← ha1, if_neg (by omega), show (p + 1) * 3 = p * 3 + 3 by omega]
      have HON := HONE.out hL1
      generalize hE (fun x => decide (0 < cnt l m x)) E r (p + 1) = B at *
      have HON' : Hid (∀ W, Below w.heap.size w W → ∀ (a1 : Option Addr), a1 = some ⟨b, (p + 1) * 3, none⟩ → Calls Try.prog 14 #[.slice a1 (len - 1) (cap - 1), .slice fa m cp] W fun e w' => e = .returned (.bool B) ∧ Below W.heap.size W w') := HON
      clear HON HONE f1 f2 f3 HFT HHD HI HP hk4 hL1
      go_enter Try.func14, Try.ntmps14
      go_wp2_with (first
        | (go_at_call 21; refine HST.out.mono ?_; rintro e w1 ⟨a', cp', rfl, hps, hl1⟩; obtain ⟨c0, c1⟩ := HCL.out w1 hl1)
        | (go_at_call 14; refine (HON'.out _ hl1 a1 HA1.out).mono ?_; rintro e w2 ⟨rfl, hl2⟩))
      go_ret
      exact ⟨rfl, hl1.trans (hl2.mono hl1.size)⟩
    rw [if_neg h4]
    clear hk4 HHD HONE HFT
    by_cases h6 : K = 6
    · subst h6
      simp only [if_true]
      go_enter Try.func14, Try.ntmps14
      go_wp2_with (go_at_call 21; refine HST.out.mono ?_; rintro e w1 ⟨a', cp', rfl, hps, hl1⟩; obtain ⟨c0, c1⟩ := HCL.out w1 hl1)
      obtain ⟨ab, off, hPa, hPc⟩ := hps
      have hPa' : ps.length = 0 ∨ a' = some ⟨ab, off, none⟩ := by rcases hPa with h | h; exact .inl (by simpa using h); exact .inr h.1
      have HPC : Hid (∀ i (h : i < ps.length), w1.cell? ⟨ab, off + i, none⟩ = some (offV p ps[i])) := fun i h => hPc i _ (by simp [h])
      have hs1 := hl1.size
      clear hPa hPc c0 c1
      go_loopw [6] (fun x wr => ∃ j : Nat, j ≤ ps.length ∧ x = .int .i64 (j : Int) ∧ (∀ i (hi : i < ps.length), i < j → hE (fun x => decide (0 < cnt l m x)) E r ps[i] = false) ∧ Below w1.heap.size w1 wr) (fun x _ => ps.length - (intOf x).toNat)
      case atStart => exact ⟨0, Nat.zero_le _, rfl, fun i _ h => by omega, Below.refl _ _⟩
      case round =>
        obtain ⟨j, hj, rfl, hsf, hbel⟩ := hrel
        have HSF : Hid (∀ i (hi : i < ps.length), i < j → hE (fun x => decide (0 < cnt l m x)) E r ps[i] = false) := hsf
        clear hsf
        have HB : Below w.heap.size w wr := hl1.trans (hbel.mono hs1)
        obtain ⟨k0, k1⟩ := HCL.out wr HB
        by_cases hjl : j < ps.length
        · have hjl' : (j : Int) < (ps.length : Int) := by omega
          rcases hPa' with h | rfl
          · omega
          have q0 : wr.cell? ⟨ab, off + j, none⟩ = some (offV p ps[j]) := (hbel.cell (p := ⟨ab, _, none⟩) (World.block_lt_of_cell? _ _ (HPC.out j hjl))).trans (HPC.out j hjl)
          have HPJ := HP.out j hjl
          have HIJ := HI.out j hjl
          have HBL : Hid (b < w.heap.size ∧ ab < w1.heap.size) := ⟨World.block_lt_of_cell? _ _ (HCL.out w (Below.refl _ _)).1, World.block_lt_of_cell? _ _ (HPC.out j hjl)⟩
          unfold offV at q0 HPJ
          obtain ⟨Q, hQ⟩ : ∃ Q, ((ps[j] : Nat) : Int) - (p : Int) = Q := ⟨_, rfl⟩
          obtain ⟨Z, hZ⟩ : ∃ Z, (E ps[j]).size.toNat + 1 = Z := ⟨_, rfl⟩
          obtain ⟨Y, hY⟩ : ∃ Y, cap - (ps[j] - p) = Y := ⟨_, rfl⟩
          obtain ⟨X, hX⟩ : ∃ X, ps[j] * 3 = X := ⟨_, rfl⟩
          rw [hQ] at q0 HPJ
          rw [hZ, hY, hX] at HPJ HIJ
          clear hQ hZ hY hX
          cases hb : hE (fun x => decide (0 < cnt l m x)) E r ps[j] with
          | true =>
            have HA : Hid (ps.any (hE (fun x => decide (0 < cnt l m x)) E r) = true) := by show _ = _; rw [List.any_eq_true]; exact ⟨ps[j], List.getElem_mem _, hb⟩
            rw [hb] at HIJ
            have HP' : Hid (∀ W, Below w.heap.size w W → Calls Try.prog 23 #[.slice (some ⟨b, p * 3, none⟩) len cap, .int .i64 Q] W fun e w' => e = .returned (.slice (some ⟨b, X, none⟩) Z Y) ∧ w' = W) := HPJ
            have HI' : Hid (∀ W, Below w.heap.size w W → Calls Try.prog 14 #[.slice (some ⟨b, X, none⟩) Z Y, .slice fa m cp] W fun e w' => e = .returned (.bool true) ∧ Below W.heap.size W w') := HIJ
            clear HPJ HIJ HI HP hb HSF
            go_wp2_with fail
            go_region_held3 (fun w' => w'.cell? ⟨ab, off + j, none⟩ = some (.int .i64 Q) ∧ w'.cell? ⟨b, p * 3, none⟩ = some (.int .i64 6))
              (first | go_keep | (exact ⟨(hl2.cell (p := ⟨ab, _, none⟩) (Nat.lt_of_lt_of_le HBL.out.2 hbel.size)).trans q0, (hl2.cell (p := ⟨b, _, none⟩) (Nat.lt_of_lt_of_le HBL.out.1 HB.size)).trans k0⟩))
              (first
                | ((go_at_call 23; refine (HP'.out _ HB.drew).mono ?_; rintro e wx ⟨rfl, hw⟩; obtain rfl := hw.symm; clear hw))
                | ((go_at_call 14; refine (HI'.out _ HB.drew).mono ?_; rintro e w2 ⟨rfl, hl2⟩)))
            obtain ⟨k0', k1'⟩ := HCL.out w2 (HB.drew.trans (hl2.mono HB.drew.size))
            go_wp2_with fail
            go_ret
            exact ⟨ret_bool HA.out.symm, HB.drew.trans (hl2.mono HB.drew.size)⟩
          | false =>
            rw [hb] at HIJ
            have HP' : Hid (∀ W, Below w.heap.size w W → Calls Try.prog 23 #[.slice (some ⟨b, p * 3, none⟩) len cap, .int .i64 Q] W fun e w' => e = .returned (.slice (some ⟨b, X, none⟩) Z Y) ∧ w' = W) := HPJ
            have HI' : Hid (∀ W, Below w.heap.size w W → Calls Try.prog 14 #[.slice (some ⟨b, X, none⟩) Z Y, .slice fa m cp] W fun e w' => e = .returned (.bool false) ∧ Below W.heap.size W w') := HIJ
            have HBJ : Hid (hE (fun x => decide (0 < cnt l m x)) E r ps[j] = false) := hb
            clear HPJ HIJ HI HP hb
            go_wp2_with fail
            go_region_held3 (fun w' => w'.cell? ⟨ab, off + j, none⟩ = some (.int .i64 Q) ∧ w'.cell? ⟨b, p * 3, none⟩ = some (.int .i64 6))
              (first | go_keep | (exact ⟨(hl2.cell (p := ⟨ab, _, none⟩) (Nat.lt_of_lt_of_le HBL.out.2 hbel.size)).trans q0, (hl2.cell (p := ⟨b, _, none⟩) (Nat.lt_of_lt_of_le HBL.out.1 HB.size)).trans k0⟩))
              (first
                | ((go_at_call 23; refine (HP'.out _ HB.drew).mono ?_; rintro e wx ⟨rfl, hw⟩; obtain rfl := hw.symm; clear hw))
                | ((go_at_call 14; refine (HI'.out _ HB.drew).mono ?_; rintro e w2 ⟨rfl, hl2⟩)))
            go_wp2_with fail
            go_roundw
            case rel => exact ⟨j + 1, by omega, by go_num, fun i hi h => by
              rcases Nat.lt_or_ge i j with h' | h'
              · exact HSF.out i hi h'
              · obtain rfl : i = j := by omega
                exact HBJ.out, hbel.drew.trans (hl2.mono hbel.drew.size)⟩
            case measure => simp [intOf]; omega
        · have hjl' : ¬ (j : Int) < (ps.length : Int) := by omega
          have HA : Hid (ps.any (hE (fun x => decide (0 < cnt l m x)) E r) = false) := any_none fun i hi => HSF.out i hi (by omega)
          go_wp2
          go_ret
          exact ⟨ret_bool HA.out.symm, HB⟩
    rw [if_neg h6]
    have h5 : K = 5 := by omega
    subst h5
    go_enter Try.func14, Try.ntmps14
    go_wp2_with (go_at_call 21; refine HST.out.mono ?_; rintro e w1 ⟨a', cp', rfl, hps, hl1⟩; obtain ⟨c0, c1⟩ := HCL.out w1 hl1)
    obtain ⟨ab, off, hPa, hPc⟩ := hps
    have hPa' : ps.length = 0 ∨ a' = some ⟨ab, off, none⟩ := by rcases hPa with h | h; exact .inl (by simpa using h); exact .inr h.1
    have HPC : Hid (∀ i (h : i < ps.length), w1.cell? ⟨ab, off + i, none⟩ = some (offV p ps[i])) := fun i h => hPc i _ (by simp [h])
    have hs1 := hl1.size
    clear hPa hPc c0 c1
    go_loopw [6] (fun x wr => ∃ j : Nat, j ≤ ps.length ∧ x = .int .i64 (j : Int) ∧ (∀ i (hi : i < ps.length), i < j → hE (fun x => decide (0 < cnt l m x)) E r ps[i] = true) ∧ Below w1.heap.size w1 wr) (fun x _ => ps.length - (intOf x).toNat)
    case atStart => exact ⟨0, Nat.zero_le _, rfl, fun i _ h => by omega, Below.refl _ _⟩
    case round =>
      obtain ⟨j, hj, rfl, hsf, hbel⟩ := hrel
      have HSF : Hid (∀ i (hi : i < ps.length), i < j → hE (fun x => decide (0 < cnt l m x)) E r ps[i] = true) := hsf
      clear hsf
      have HB : Below w.heap.size w wr := hl1.trans (hbel.mono hs1)
      obtain ⟨k0, k1⟩ := HCL.out wr HB
      by_cases hjl : j < ps.length
      · have hjl' : (j : Int) < (ps.length : Int) := by omega
        rcases hPa' with h | rfl
        · omega
        have q0 : wr.cell? ⟨ab, off + j, none⟩ = some (offV p ps[j]) := (hbel.cell (p := ⟨ab, _, none⟩) (World.block_lt_of_cell? _ _ (HPC.out j hjl))).trans (HPC.out j hjl)
        have HPJ := HP.out j hjl
        have HIJ := HI.out j hjl
        have HBL : Hid (b < w.heap.size ∧ ab < w1.heap.size) := ⟨World.block_lt_of_cell? _ _ (HCL.out w (Below.refl _ _)).1, World.block_lt_of_cell? _ _ (HPC.out j hjl)⟩
        unfold offV at q0 HPJ
        obtain ⟨Q, hQ⟩ : ∃ Q, ((ps[j] : Nat) : Int) - (p : Int) = Q := ⟨_, rfl⟩
        obtain ⟨Z, hZ⟩ : ∃ Z, (E ps[j]).size.toNat + 1 = Z := ⟨_, rfl⟩
        obtain ⟨Y, hY⟩ : ∃ Y, cap - (ps[j] - p) = Y := ⟨_, rfl⟩
        obtain ⟨X, hX⟩ : ∃ X, ps[j] * 3 = X := ⟨_, rfl⟩
        rw [hQ] at q0 HPJ
        rw [hZ, hY, hX] at HPJ HIJ
        clear hQ hZ hY hX
        cases hb : hE (fun x => decide (0 < cnt l m x)) E r ps[j] with
        | false =>
          have HA : Hid (ps.all (hE (fun x => decide (0 < cnt l m x)) E r) = false) := all_take hjl hb
          rw [hb] at HIJ
          have HP' : Hid (∀ W, Below w.heap.size w W → Calls Try.prog 23 #[.slice (some ⟨b, p * 3, none⟩) len cap, .int .i64 Q] W fun e w' => e = .returned (.slice (some ⟨b, X, none⟩) Z Y) ∧ w' = W) := HPJ
          have HI' : Hid (∀ W, Below w.heap.size w W → Calls Try.prog 14 #[.slice (some ⟨b, X, none⟩) Z Y, .slice fa m cp] W fun e w' => e = .returned (.bool false) ∧ Below W.heap.size W w') := HIJ
          clear HPJ HIJ HI HP hb HSF
          go_wp2_with fail
          go_region_held3 (fun w' => w'.cell? ⟨ab, off + j, none⟩ = some (.int .i64 Q) ∧ w'.cell? ⟨b, p * 3, none⟩ = some (.int .i64 5))
            (first | go_keep | (exact ⟨(hl2.cell (p := ⟨ab, _, none⟩) (Nat.lt_of_lt_of_le HBL.out.2 hbel.size)).trans q0, (hl2.cell (p := ⟨b, _, none⟩) (Nat.lt_of_lt_of_le HBL.out.1 HB.size)).trans k0⟩))
            (first
              | ((go_at_call 23; refine (HP'.out _ HB.drew).mono ?_; rintro e wx ⟨rfl, hw⟩; obtain rfl := hw.symm; clear hw))
              | ((go_at_call 14; refine (HI'.out _ HB.drew).mono ?_; rintro e w2 ⟨rfl, hl2⟩)))
          obtain ⟨k0', k1'⟩ := HCL.out w2 (HB.drew.trans (hl2.mono HB.drew.size))
          go_wp2_with fail
          go_ret
          exact ⟨ret_bool HA.out.symm, HB.drew.trans (hl2.mono HB.drew.size)⟩
        | true =>
          rw [hb] at HIJ
          have HP' : Hid (∀ W, Below w.heap.size w W → Calls Try.prog 23 #[.slice (some ⟨b, p * 3, none⟩) len cap, .int .i64 Q] W fun e w' => e = .returned (.slice (some ⟨b, X, none⟩) Z Y) ∧ w' = W) := HPJ
          have HI' : Hid (∀ W, Below w.heap.size w W → Calls Try.prog 14 #[.slice (some ⟨b, X, none⟩) Z Y, .slice fa m cp] W fun e w' => e = .returned (.bool true) ∧ Below W.heap.size W w') := HIJ
          have HBJ : Hid (hE (fun x => decide (0 < cnt l m x)) E r ps[j] = true) := hb
          clear HPJ HIJ HI HP hb
          go_wp2_with fail
          go_region_held3 (fun w' => w'.cell? ⟨ab, off + j, none⟩ = some (.int .i64 Q) ∧ w'.cell? ⟨b, p * 3, none⟩ = some (.int .i64 5))
            (first | go_keep | (exact ⟨(hl2.cell (p := ⟨ab, _, none⟩) (Nat.lt_of_lt_of_le HBL.out.2 hbel.size)).trans q0, (hl2.cell (p := ⟨b, _, none⟩) (Nat.lt_of_lt_of_le HBL.out.1 HB.size)).trans k0⟩))
            (first
              | ((go_at_call 23; refine (HP'.out _ HB.drew).mono ?_; rintro e wx ⟨rfl, hw⟩; obtain rfl := hw.symm; clear hw))
              | ((go_at_call 14; refine (HI'.out _ HB.drew).mono ?_; rintro e w2 ⟨rfl, hl2⟩)))
          go_wp2_with fail
          go_roundw
          case rel => exact ⟨j + 1, by omega, by go_num, fun i hi h => by
            rcases Nat.lt_or_ge i j with h' | h'
            · exact HSF.out i hi h'
            · obtain rfl : i = j := by omega
              exact HBJ.out, hbel.drew.trans (hl2.mono hbel.drew.size)⟩
          case measure => simp [intOf]; omega
      · have hjl' : ¬ (j : Int) < (ps.length : Int) := by omega
        have HA : Hid (ps.all (hE (fun x => decide (0 < cnt l m x)) E r) = true) := all_each fun i hi => HSF.out i hi (by omega)
        go_wp2
        go_ret
        exact ⟨ret_bool HA.out.symm, HB⟩

end Go.Proofs.Ytgpfnldoiaigdaa.cd
