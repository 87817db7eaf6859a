import Derived.Test.YtifgaaemdojmpaaGreatDoorG05
import Derived.Lib.LaidTab
namespace Go.Proofs.YtifgaaemdojmpaaGreatDoor.ex
open Go.ChangeShapes Go.WideShapes Go.ChangeAt Go.RowKit Go.Deep Go.Maps
set_option linter.unusedVariables false
set_option linter.unusedSimpArgs false

theorem sok_node {E : Nat → Ex} {r p len : Nat} (hk : okKind (E p).kind = true) (hl : len ≤ 3000) (h : nodeS (E p) = false) : ok E (r + 1) p len = false := by rw [ok_spec hk hl, h]; simp
theorem sok_sp {E : Nat → Ex} {r p len : Nat} {ps : List Nat} (hk : okKind (E p).kind = true) (hl : len ≤ 3000) (hc : cutP E (p + 1) (len - 1) = some ps) (h : sp (E p).kind (ps.map E) = false) : ok E (r + 1) p len = false := by rw [ok_spec hk hl, hc]; simp [h]
theorem sok_all {E : Nat → Ex} {r p len : Nat} {ps : List Nat} (hk : okKind (E p).kind = true) (hl : len ≤ 3000) (hs : (E p).size = (len : Int) - 1) (hn : nodeS (E p) = true) (hc : cutP E (p + 1) (len - 1) = some ps) (h : sp (E p).kind (ps.map E) = true) : ok E (r + 1) p len = ps.all fun q => ok E r q ((E q).size.toNat + 1) := by rw [ok_spec hk hl, hc]; simp [h, hs, hn]

theorem snode_at {e : Ex} {v : Bool} (h : nodeS e = v) (z : Int) (hs : e.text.size ≤ 1048576) (w : World) :
    Calls Tryz.prog 40 #[.agg #[.int .i64 e.kind, .string e.text, .int .i64 e.n, .int .i64 z]] w fun e' w' => e' = .returned (.bool v) ∧ Below w.heap.size w w' := by
  have h' : nodeS ⟨e.kind, e.text, e.n, z⟩ = v := h
  exact h' ▸ snode_any e.kind e.n z e.text hs w

theorem kinds_at {E : Nat → Ex} {b n p len cap : Nat} {k : Int} {ps : List Nat} {v : Bool} (h : (kindsL k (ps.map E) && decide (namesL k (ps.map E)).Nodup) = v) (av : Option Addr) (cp : Nat) (w : World) (hX : XsB w b n E) (hp : p + len ≤ n) (hn : n ≤ 3000) (hl : 0 < len) (hk : (E p).kind = k) (hF : ∀ q ∈ ps, Fits E (p + 1) (p + len) q) (hpl : ps.length ≤ 3000) (hP : PsB w av (ps.map (relV p))) :
    Calls Tryz.prog 43 #[.slice (some ⟨b, p * 4, none⟩) len cap, .slice av ps.length cp] w fun e w' => e = .returned (.bool v) ∧ Below w.heap.size w w' := h ▸ kinds_any E b n p len cap k ps av cp w hX hp hn hl hk hF hpl hP

theorem parts_at {E : Nat → Ex} {b n p len cap : Nat} {ps : List Nat} {w : World} (hcut : cutP E (p + 1) (len - 1) = some ps) (hX : XsB w b n E) (hp : p + len ≤ n) (hn : n ≤ 3000) (hl : 0 < len) (hsz : (E p).size = (len : Int) - 1) :
    Calls Tryz.prog 41 #[.slice (some ⟨b, p * 4, none⟩) len cap] w fun e w' => ∃ av cp, e = .returned (.slice av ps.length cp) ∧ PsB w' av (ps.map (relV p)) ∧ Below w.heap.size w w' := by
  refine (parts_any E b n p len cap ps w hX hp hn hl hsz hcut).mono ?_
  rintro e w' ⟨v, rfl, ho, hl⟩
  obtain ⟨_, av, cp, rfl, _, _, h4⟩ := PsB.own ho
  exact ⟨av, cp, rfl, h4, hl⟩

set_option maxRecDepth 100000 in
set_option maxHeartbeats 4000000 in
theorem sok_any (E : Nat → Ex) (b n : Nat) (hn : n ≤ 3000) (ht : ∀ i, i < n → (E i).text.size ≤ 1048576) : ∀ (r : Nat), r ≤ 61 → ∀ (p len cap : Nat) (w : World), XsB w b n E → okKind (E p).kind = true → 0 < len → p + len ≤ n → len ≤ cap → cap ≤ 9223372036854775807 →
    Calls Tryz.prog 19 #[.slice (some ⟨b, p * 4, none⟩) len cap, .int .i64 (61 - (r : Int))] w fun e w' => e = .returned (.bool (ok E r p len)) ∧ Below w.heap.size w w' := by
  intro r
  induction r with
  | zero =>
    intro _ p len cap w hX hk hl hp hc hcap
    go_enter Tryz.func19, Tryz.ntmps19
    go_wp2_with fail
    go_ret
    exact ⟨rfl, Below.refl _ _⟩
  | succ r ih =>
    intro hr p len cap w hX hk hl hp hc hcap
    obtain ⟨g0, g1, g2, g3⟩ := hX p (by omega)
    have hl' : (0 : Int) < (len : Int) := by omega
    have hl0 : ¬ len = 0 := by omega
    have hln : 0 < len := hl
    obtain ⟨ar, har⟩ : ∃ ar : Int, (61 - ((r + 1 : Nat) : Int)) = ar := ⟨_, rfl⟩
    rw [har]
    have har0 : ¬ (60 : Int) < ar := by omega
    have har1 : ar + 1 = 61 - (r : Int) := by omega
    have har2 : 0 ≤ ar := by omega
    clear har
    have hts : (E p).text.size ≤ 1048576 := ht p (by omega)
    have HK : Hid (okKind (E p).kind = true) := hk
    clear hk
    by_cases hsz : (E p).size = (len : Int) - 1
    · have HZ : Hid ((E p).size = (len : Int) - 1) := hsz
      rw [hsz] at g3
      clear hsz
      cases hh : nodeS (E p) with
      | false =>
        have HO : Hid (ok E (r + 1) p len = false) := sok_node HK.out (by omega) hh
        go_enter Tryz.func19, Tryz.ntmps19
        go_wp2_with (go_at_call 40; refine (snode_at hh _ hts _).mono ?_; rintro e w1 ⟨rfl, hl1⟩)
        go_ret
        exact ⟨ret_bool HO.out.symm, hl1⟩
      | true =>
        go_enter Tryz.func19, Tryz.ntmps19
        go_wp2_with (go_at_call 40; refine (snode_at hh _ hts _).mono ?_; rintro e w1 ⟨rfl, hl1⟩)
        have hX1 := hX.below hl1
        go_loop [5] (fun x => ∃ (i : Nat) (pre : List Nat), 1 ≤ i ∧ i ≤ len ∧ x = .int .i64 (i : Int) ∧ cutP E (p + 1) (len - 1) = (cutP E (p + i) (len - i)).map (pre ++ ·)) (fun x => len - (intOf x).toNat)
        case atStart => exact ⟨1, [], Nat.le_refl _, by omega, rfl, by simp⟩
        case round =>
          obtain ⟨i, pre, hi1, hil, rfl, hcut⟩ := hrel
          have HC : Hid (cutP E (p + 1) (len - 1) = (cutP E (p + i) (len - i)).map (pre ++ ·)) := hcut
          clear hcut
          by_cases hlt : i < len
          · have hlt' : (i : Int) < (len : Int) := by omega
            have k3 := (hX1 (p + i) (by omega)).2.2.2
            rw [Nat.add_mul] at k3
            by_cases hb : (E (p + i)).size < 0 ∨ ((len - i : Nat) : Int) ≤ (E (p + i)).size
            · have HN : Hid (ok E (r + 1) p len = false) := ok_cut (by rw [HC.out, cut_bad (by omega) hb]; rfl)
              by_cases hb0 : (E (p + i)).size < 0
              · clear hb
                go_wp2_with fail
                go_ret
                exact ⟨ret_bool HN.out.symm, hl1⟩
              · have hb1 : (len : Int) - (i : Int) - 1 < (E (p + i)).size := by omega
                clear hb
                go_wp2_with fail
                go_ret
                exact ⟨ret_bool HN.out.symm, hl1⟩
            · have HS : Hid (cutP E (p + i) (len - i) = (cutP E (p + i + ((E (p + i)).size.toNat + 1)) (len - i - ((E (p + i)).size.toNat + 1))).map ((p + i) :: ·)) := cut_step (by omega) hb
              obtain ⟨z, hz⟩ : ∃ z : Nat, (E (p + i)).size = z := ⟨(E (p + i)).size.toNat, by omega⟩
              have hz' : (E (p + i)).size.toNat = z := by omega
              rw [hz'] at HS
              rw [hz] at k3 hb
              have hb0 : ¬ (z : Int) < 0 := by omega
              have hb1 : ¬ (len : Int) - (i : Int) - 1 < (z : Int) := by omega
              clear hz hz' hb
              go_wp2_with fail
              go_round
              case rel => exact ⟨i + 1 + z, pre ++ [p + i], by omega, by omega, by go_num, by
                rw [HC.out, HS.out, Option.map_map, show p + (i + 1 + z) = p + i + (z + 1) by omega, show len - (i + 1 + z) = len - i - (z + 1) by omega]
                congr 1
                funext x
                simp⟩
              case measure => simp [intOf]; omega
          · have hlt' : ¬ (i : Int) < (len : Int) := by omega
            have hcs : cutP E (p + 1) (len - 1) = some pre := by rw [HC.out, show len - i = 0 by omega, cut_zero]; simp
            have HCS : Hid (cutP E (p + 1) (len - 1) = some pre) := hcs
            obtain ⟨hfits, hpl⟩ := cut_fits _ _ _ hcs
            have HFT : Hid (∀ q ∈ pre, Fits E (p + 1) (p + len) q) := by
              intro q hq
              obtain ⟨h1, h2, h3⟩ := hfits q hq
              exact ⟨h1, h2, by omega⟩
            clear hcs hfits HC
            go_wp2_with (go_at_call 41; refine (parts_at HCS.out hX1 hp hn hl HZ.out).mono ?_; rintro e w2 ⟨av, cp, rfl, hP2, hl2⟩; have hX2 := hX1.below hl2; have B2 := hl1.trans (hl2.mono hl1.size); have g0' := (hX2 p (by omega)).1; clear hX1)
            by_cases hlo : (pre.length : Int) < lowS (E p).kind
            · have HO : Hid (ok E (r + 1) p len = false) := sok_sp HK.out (by omega) HCS.out (by rw [sp]; simp [countB]; omega)
              go_wp2_with (go_at_call 42; refine (count_any _ _).mono ?_; rintro e w' ⟨rfl, hw⟩; have hw2 := hw.symm; subst hw2; clear hw)
              go_ret
              exact ⟨ret_bool HO.out.symm, B2⟩
            · by_cases hhi : 0 ≤ highS (E p).kind
              · by_cases hhn : highS (E p).kind < (pre.length : Int)
                · have HO : Hid (ok E (r + 1) p len = false) := sok_sp HK.out (by omega) HCS.out (by rw [sp]; simp [countB]; omega)
                  go_wp2_with (go_at_call 42; refine (count_any _ _).mono ?_; rintro e w' ⟨rfl, hw⟩; have hw2 := hw.symm; subst hw2; clear hw)
                  go_ret
                  exact ⟨ret_bool HO.out.symm, B2⟩
                · cases hkd : (kindsL (E p).kind (pre.map E) && decide (namesL (E p).kind (pre.map E)).Nodup) with
                  | false =>
                    have HO : Hid (ok E (r + 1) p len = false) := sok_sp HK.out (by omega) HCS.out (by rw [sp, hkd, Bool.and_false])
                    go_wp2_with (first
                      | (go_at_call 42; refine (count_any _ _).mono ?_; rintro e w' ⟨rfl, rfl⟩)
                      | (go_at_call 43; refine (kinds_at hkd _ _ _ hX2 hp hn hl rfl HFT.out (by omega) hP2).mono ?_; rintro e w3 ⟨rfl, hl3⟩))
                    go_ret
                    exact ⟨ret_bool HO.out.symm, B2.trans (hl3.mono B2.size)⟩
                  | true =>
                    have hspt : sp (E p).kind (pre.map E) = true := by rw [sp, hkd, Bool.and_true]; simp [countB]; omega
                    have HO : Hid (ok E (r + 1) p len = pre.all fun q => ok E r q ((E q).size.toNat + 1)) := sok_all HK.out (by omega) HZ.out hh HCS.out hspt
                    have HKS : Hid (∀ q ∈ pre, okKind (E q).kind = true) := by
                      intro q hq
                      simp only [sp, Bool.and_eq_true] at hspt
                      exact sp_kinds hspt.2.1 (E q) (List.mem_map.2 ⟨q, hq, rfl⟩)
                    clear hspt
                    go_wp2_with (first
                      | (go_at_call 42; refine (count_any _ _).mono ?_; rintro e w' ⟨rfl, rfl⟩)
                      | (go_at_call 43; refine (kinds_at hkd _ _ _ hX2 hp hn hl rfl HFT.out (by omega) hP2).mono ?_; rintro e w3 ⟨rfl, hl3⟩))
                    have hX3 := hX2.below hl3
                    have B3 := B2.trans (hl3.mono B2.size)
                    obtain ⟨bb, off, hav, hP3⟩ := hP2.below hl3
                    have hav' : pre.length = 0 ∨ av = some ⟨bb, off, none⟩ := by simpa using hav
                    have hcell : ∀ i (h : i < pre.length), w3.cell? ⟨bb, off + i, none⟩ = some (relV p pre[i]) := fun i h => hP3 i _ (by simp [h])
                    clear hX2 hl3 hP2 B2 hP3 hav g0' hkd hlo hhi hhn
                    go_loopw [9] (fun x wr => ∃ j : Nat, j ≤ pre.length ∧ x = .int .i64 (j : Int) ∧ AllOk E r pre j ∧ Below w3.heap.size w3 wr) (fun x _ => pre.length - (intOf x).toNat)
                    case atStart => exact ⟨0, Nat.zero_le _, rfl, fun q h hq => by omega, Below.refl _ _⟩
                    case round =>
                      obtain ⟨j, hj, rfl, hall, hbel⟩ := hrel
                      have HA : Hid (AllOk E r pre j) := hall
                      clear hall
                      by_cases hjl : j < pre.length
                      · have hjl' : (j : Int) < (pre.length : Int) := by omega
                        obtain rfl := hav'.resolve_left (by omega)
                        obtain ⟨f1, f2, f3⟩ := HFT.out _ (List.getElem_mem hjl)
                        obtain ⟨d, hd⟩ : ∃ d, pre[j] = p + d := ⟨pre[j] - p, by omega⟩
                        have c0 : wr.cell? ⟨bb, off + j, none⟩ = some (.int .i64 (d : Int)) := by
                          have h1 := hcell j hjl
                          rw [(hbel.cell (p := ⟨bb, _, none⟩) (World.block_lt_of_cell? _ _ h1)), h1, relV, hd]
                          simp
                        rw [hd] at f1 f2 f3
                        obtain ⟨z, hz⟩ : ∃ z : Nat, (E (p + d)).size = z := ⟨(E (p + d)).size.toNat, by omega⟩
                        have hz' : (E (p + d)).size.toNat = z := by omega
                        have HPT : Hid (Calls Tryz.prog 44 #[.slice (some ⟨b, p * 4, none⟩) len cap, .int .i64 (d : Int)] wr fun e w' => e = .returned (.slice (some ⟨b, (p + d) * 4, none⟩) (z + 1) (cap - d)) ∧ w' = wr) := part_any E b n p len cap d z wr (hX3.below hbel) hp hn ⟨hc, hcap⟩ hz (by omega)
                        have hki : okKind (E (p + d)).kind = true := by have := HKS.out _ (List.getElem_mem hjl); rw [hd] at this; exact this
                        have HI : Hid (Calls Tryz.prog 19 #[.slice (some ⟨b, (p + d) * 4, none⟩) (z + 1) (cap - d), .int .i64 (61 - (r : Int))] wr fun e w' => e = .returned (.bool (ok E r (p + d) (z + 1))) ∧ Below wr.heap.size wr w') := ih (by omega) (p + d) (z + 1) (cap - d) wr (hX3.below hbel) hki (by omega) (by omega) (by omega) (by omega)
                        have HQ : Hid (ok E r pre[j] ((E pre[j]).size.toNat + 1) = ok E r (p + d) (z + 1)) := by show _ = _; rw [hd, hz']
                        clear hz hz' hki hd f2
                        cases hx : ok E r (p + d) (z + 1) with
                        | true =>
                          rw [hx] at HI HQ
                          go_wp2_with (first
                            | (go_at_call 44; refine HPT.out.mono ?_; rintro e w' ⟨rfl, hw⟩; have hw2 := hw.symm; subst hw2; clear hw)
                            | (go_at_call 19; refine HI.out.mono ?_; rintro e w4 ⟨rfl, hl4⟩))
                          go_roundw
                          case rel => exact ⟨j + 1, by omega, by go_num, fun q h hq => by
                            rcases Nat.lt_or_ge q j with h' | h'
                            · exact HA.out q h h'
                            · obtain rfl : q = j := by omega
                              exact HQ.out, hbel.trans (hl4.mono hbel.size)⟩
                          case measure => simp [intOf]; omega
                        | false =>
                          rw [hx] at HI HQ
                          have HN : Hid (ok E (r + 1) p len = false) := by show _ = _; rw [HO.out]; exact all_no hjl HQ.out
                          go_wp2_with (first
                            | (go_at_call 44; refine HPT.out.mono ?_; rintro e w' ⟨rfl, hw⟩; have hw2 := hw.symm; subst hw2; clear hw)
                            | (go_at_call 19; refine HI.out.mono ?_; rintro e w4 ⟨rfl, hl4⟩))
                          go_ret
                          exact ⟨ret_bool HN.out.symm, B3.trans ((hbel.trans (hl4.mono hbel.size)).mono B3.size)⟩
                      · have hjl' : ¬ (j : Int) < (pre.length : Int) := by omega
                        obtain rfl : j = pre.length := by omega
                        have HN : Hid (ok E (r + 1) p len = true) := by show _ = _; rw [HO.out]; exact all_yes HA.out
                        go_wp2_with fail
                        go_ret
                        exact ⟨ret_bool HN.out.symm, B3.trans (hbel.mono B3.size)⟩
              · cases hkd : (kindsL (E p).kind (pre.map E) && decide (namesL (E p).kind (pre.map E)).Nodup) with
                | false =>
                  have HO : Hid (ok E (r + 1) p len = false) := sok_sp HK.out (by omega) HCS.out (by rw [sp, hkd, Bool.and_false])
                  go_wp2_with (first
                    | (go_at_call 42; refine (count_any _ _).mono ?_; rintro e w' ⟨rfl, rfl⟩)
                    | (go_at_call 43; refine (kinds_at hkd _ _ _ hX2 hp hn hl rfl HFT.out (by omega) hP2).mono ?_; rintro e w3 ⟨rfl, hl3⟩))
                  go_ret
                  exact ⟨ret_bool HO.out.symm, B2.trans (hl3.mono B2.size)⟩
                | true =>
                  have hspt : sp (E p).kind (pre.map E) = true := by rw [sp, hkd, Bool.and_true]; simp [countB]; omega
                  have HO : Hid (ok E (r + 1) p len = pre.all fun q => ok E r q ((E q).size.toNat + 1)) := sok_all HK.out (by omega) HZ.out hh HCS.out hspt
                  have HKS : Hid (∀ q ∈ pre, okKind (E q).kind = true) := by
                    intro q hq
                    simp only [sp, Bool.and_eq_true] at hspt
                    exact sp_kinds hspt.2.1 (E q) (List.mem_map.2 ⟨q, hq, rfl⟩)
                  clear hspt
                  go_wp2_with (first
                    | (go_at_call 42; refine (count_any _ _).mono ?_; rintro e w' ⟨rfl, rfl⟩)
                    | (go_at_call 43; refine (kinds_at hkd _ _ _ hX2 hp hn hl rfl HFT.out (by omega) hP2).mono ?_; rintro e w3 ⟨rfl, hl3⟩))
                  have hX3 := hX2.below hl3
                  have B3 := B2.trans (hl3.mono B2.size)
                  obtain ⟨bb, off, hav, hP3⟩ := hP2.below hl3
                  have hav' : pre.length = 0 ∨ av = some ⟨bb, off, none⟩ := by simpa using hav
                  have hcell : ∀ i (h : i < pre.length), w3.cell? ⟨bb, off + i, none⟩ = some (relV p pre[i]) := fun i h => hP3 i _ (by simp [h])
                  clear hX2 hl3 hP2 B2 hP3 hav g0' hkd hlo hhi
                  go_loopw [9] (fun x wr => ∃ j : Nat, j ≤ pre.length ∧ x = .int .i64 (j : Int) ∧ AllOk E r pre j ∧ Below w3.heap.size w3 wr) (fun x _ => pre.length - (intOf x).toNat)
                  case atStart => exact ⟨0, Nat.zero_le _, rfl, fun q h hq => by omega, Below.refl _ _⟩
                  case round =>
                    obtain ⟨j, hj, rfl, hall, hbel⟩ := hrel
                    have HA : Hid (AllOk E r pre j) := hall
                    clear hall
                    by_cases hjl : j < pre.length
                    · have hjl' : (j : Int) < (pre.length : Int) := by omega
                      obtain rfl := hav'.resolve_left (by omega)
                      obtain ⟨f1, f2, f3⟩ := HFT.out _ (List.getElem_mem hjl)
                      obtain ⟨d, hd⟩ : ∃ d, pre[j] = p + d := ⟨pre[j] - p, by omega⟩
                      have c0 : wr.cell? ⟨bb, off + j, none⟩ = some (.int .i64 (d : Int)) := by
                        have h1 := hcell j hjl
                        rw [(hbel.cell (p := ⟨bb, _, none⟩) (World.block_lt_of_cell? _ _ h1)), h1, relV, hd]
                        simp
                      rw [hd] at f1 f2 f3
                      obtain ⟨z, hz⟩ : ∃ z : Nat, (E (p + d)).size = z := ⟨(E (p + d)).size.toNat, by omega⟩
                      have hz' : (E (p + d)).size.toNat = z := by omega
                      have HPT : Hid (Calls Tryz.prog 44 #[.slice (some ⟨b, p * 4, none⟩) len cap, .int .i64 (d : Int)] wr fun e w' => e = .returned (.slice (some ⟨b, (p + d) * 4, none⟩) (z + 1) (cap - d)) ∧ w' = wr) := part_any E b n p len cap d z wr (hX3.below hbel) hp hn ⟨hc, hcap⟩ hz (by omega)
                      have hki : okKind (E (p + d)).kind = true := by have := HKS.out _ (List.getElem_mem hjl); rw [hd] at this; exact this
                      have HI : Hid (Calls Tryz.prog 19 #[.slice (some ⟨b, (p + d) * 4, none⟩) (z + 1) (cap - d), .int .i64 (61 - (r : Int))] wr fun e w' => e = .returned (.bool (ok E r (p + d) (z + 1))) ∧ Below wr.heap.size wr w') := ih (by omega) (p + d) (z + 1) (cap - d) wr (hX3.below hbel) hki (by omega) (by omega) (by omega) (by omega)
                      have HQ : Hid (ok E r pre[j] ((E pre[j]).size.toNat + 1) = ok E r (p + d) (z + 1)) := by show _ = _; rw [hd, hz']
                      clear hz hz' hki hd f2
                      cases hx : ok E r (p + d) (z + 1) with
                      | true =>
                        rw [hx] at HI HQ
                        go_wp2_with (first
                          | (go_at_call 44; refine HPT.out.mono ?_; rintro e w' ⟨rfl, hw⟩; have hw2 := hw.symm; subst hw2; clear hw)
                          | (go_at_call 19; refine HI.out.mono ?_; rintro e w4 ⟨rfl, hl4⟩))
                        go_roundw
                        case rel => exact ⟨j + 1, by omega, by go_num, fun q h hq => by
                          rcases Nat.lt_or_ge q j with h' | h'
                          · exact HA.out q h h'
                          · obtain rfl : q = j := by omega
                            exact HQ.out, hbel.trans (hl4.mono hbel.size)⟩
                        case measure => simp [intOf]; omega
                      | false =>
                        rw [hx] at HI HQ
                        have HN : Hid (ok E (r + 1) p len = false) := by show _ = _; rw [HO.out]; exact all_no hjl HQ.out
                        go_wp2_with (first
                          | (go_at_call 44; refine HPT.out.mono ?_; rintro e w' ⟨rfl, hw⟩; have hw2 := hw.symm; subst hw2; clear hw)
                          | (go_at_call 19; refine HI.out.mono ?_; rintro e w4 ⟨rfl, hl4⟩))
                        go_ret
                        exact ⟨ret_bool HN.out.symm, B3.trans ((hbel.trans (hl4.mono hbel.size)).mono B3.size)⟩
                    · have hjl' : ¬ (j : Int) < (pre.length : Int) := by omega
                      obtain rfl : j = pre.length := by omega
                      have HN : Hid (ok E (r + 1) p len = true) := by show _ = _; rw [HO.out]; exact all_yes HA.out
                      go_wp2_with fail
                      go_ret
                      exact ⟨ret_bool HN.out.symm, B3.trans (hbel.mono B3.size)⟩
    · have HO : Hid (ok E (r + 1) p len = false) := ok_size hsz
      have hsb : ((E p).size == (len : Int) - 1) = false := by simpa using hsz
      go_enter Tryz.func19, Tryz.ntmps19
      go_wp2_with fail
      go_ret
      exact ⟨ret_bool HO.out.symm, Below.refl _ _⟩

end Go.Proofs.YtifgaaemdojmpaaGreatDoor.ex

namespace Go.Proofs.YtifgaaemdojmpaaGreatDoor.ex
open Go.ChangeShapes Go.WideShapes Go.ChangeAt Go.RowKit Go.Deep
set_option linter.unusedVariables false
set_option linter.unusedSimpArgs false

/-- The names of binds and params among the first parts. -/
def bnTo (E : Nat → Ex) (ps : List Nat) (i : Nat) : List (List UInt8) := ((ps.take i).filter fun q => !exprK (E q).kind).map fun q => (E q).text.data.toList

theorem take_step {ps : List Nat} {i : Nat} (h : i < ps.length) : ps.take (i + 1) = ps.take i ++ [pAt ps i] := by
  rw [List.take_succ_eq_append_getElem h]
  congr 2
  simp [pAt, h]

theorem bn_step {E : Nat → Ex} {ps : List Nat} {i : Nat} (h : i < ps.length) : bnTo E ps (i + 1) = bnTo E ps i ++ if exprK (E (pAt ps i)).kind = true then [] else [(E (pAt ps i)).text.data.toList] := by
  rw [bnTo, take_step h, List.filter_append, List.map_append, bnTo]
  congr 1
  cases hk : exprK (E (pAt ps i)).kind <;> simp [hk]

theorem bn_len (E : Nat → Ex) (ps : List Nat) (i : Nat) : (bnTo E ps i).length ≤ ps.length := by
  rw [bnTo, List.length_map]
  exact Nat.le_trans (List.length_filter_le _ _) (by simp; omega)

theorem tr_text (E : Nat → Ex) (r q : Nat) : (treeP E r q).text = (E q).text := by cases r <;> rfl

theorem names_tree (E : Nat → Ex) (r : Nat) (ps : List Nat) : namesT (ps.map (treeP E r)) = bnTo E ps ps.length := by
  rw [namesT, bnTo, List.take_length, List.filter_map, List.map_map]
  have e1 : ((fun q : Tr => !exprK q.kind) ∘ treeP E r) = fun q => !exprK (E q).kind := by funext q; simp [tr_kind]
  have e2 : ((fun q : Tr => q.text.data.toList) ∘ treeP E r) = fun q => (E q).text.data.toList := by funext q; simp [tr_text]
  rw [e1, e2]

theorem StrR.zero (w : World) : StrR (w.alloc (.cells #[] 9)) (.slice (some ⟨w.heap.size, 0, none⟩) 0 0) [] := ⟨w.heap.size, 0, 0, rfl, Nat.le_refl _, by decide, fun i x h => by simp at h⟩

theorem StrR.kept {w w' : World} {v : Value} {xs : List (List UInt8)} {B : Nat} (h : StrR w v xs) (hb : Below B w w') (hB : w.heap.size ≤ B) : StrR w' v xs := h.below (hb.mono hB)

set_option maxRecDepth 100000 in
set_option maxHeartbeats 1000000 in
theorem sbound_any {E : Nat → Ex} {b n r : Nat} (hn : n ≤ 3000) (p len cap : Nat) (ps : List Nat) (av : Option Addr) (cp : Nat) (w : World) (N : Node E r p len ps) (hX : XsB w b n E) (hl : 0 < len) (hp : p + len ≤ n) (hP : PsB w av (ps.map (relV p))) :
    Calls Tryz.prog 47 #[.slice (some ⟨b, p * 4, none⟩) len cap, .slice av ps.length cp] w fun e w' => ∃ v, e = .returned v ∧ StrR w' v (bnTo E ps ps.length) ∧ Below w.heap.size w w' := by
  obtain ⟨bp, op, hav, hPc⟩ := hP
  have hav' : ps.length = 0 ∨ av = some ⟨bp, op, none⟩ := by simpa using hav
  have HCE : Hid (∀ i, i < ps.length → w.cell? ⟨bp, op + i, none⟩ = some (relV p (pAt ps i))) := fun i h => hPc i _ (by simp [h, pAt])
  have HN : Hid (Node E r p len ps) := N
  have hps : ps.length ≤ 3000 := by have := N.few; omega
  clear hav hPc N
  go_enter Tryz.func47, Tryz.ntmps47
  go_wp2
  go_loopw [5, 6] (fun v x wr => ∃ (i : Nat), i ≤ ps.length ∧ x = .int .i64 (i : Int) ∧ StrR wr v (bnTo E ps i) ∧ wr.ownsRow w.heap.size 9 1 v (bnTo E ps i).length ((bnTo E ps i).map strL) ∧ Below w.heap.size w wr) (fun _ x _ => ps.length - (intOf x).toNat)
  case atStart => exact ⟨0, Nat.zero_le _, rfl, StrR.zero w, own_none w _, (Below.refl _ _).alloc (Nat.le_refl _) _⟩
  case round =>
    obtain ⟨i, hi, rfl, hst, hown, hbel⟩ := hrel
    have hszb := hbel.size
    have hbl := bn_len E ps i
    by_cases h : i < ps.length
    · have h' : (i : Int) < (ps.length : Int) := by omega
      obtain rfl := hav'.resolve_left (by omega)
      have hXr := hX.below hbel
      obtain ⟨d, zq, e1, e2, e3, e4, e5⟩ := HN.out.at_ i h
      have ci : wr.cell? ⟨bp, op + i, none⟩ = some (.int .i64 (d : Int)) := by
        have cc := HCE.out i h
        rw [e1, relV, show p + d - p = d by omega] at cc
        exact (hbel.cell (p := ⟨bp, _, none⟩) (World.block_lt_of_cell? _ _ cc)).trans cc
      have hd : (d : Int) < (len : Int) := by omega
      obtain ⟨k0, k1, k2, k3⟩ := hXr (p + d) (by omega)
      rw [Nat.add_mul] at k0 k1 k2 k3
      have HXS : Hid (bnTo E ps (i + 1) = bnTo E ps i ++ if exprK (E (p + d)).kind = true then [] else [(E (p + d)).text.data.toList]) := by show _ = _; rw [bn_step h, e1]
      have b1 : ∀ o, Below w.heap.size w (wr.alloc o) := fun o => hbel.alloc hszb _
      cases hkq : exprK (E (p + d)).kind with
      | true =>
        rw [hkq, if_pos rfl, List.append_nil] at HXS
        have HST : Hid (StrR wr u5 (bnTo E ps (i + 1))) := by show StrR _ _ _; rw [HXS.out]; exact hst
        have HOW : Hid (wr.ownsRow w.heap.size 9 1 u5 (bnTo E ps (i + 1)).length ((bnTo E ps (i + 1)).map strL)) := by show World.ownsRow _ _ _ _ _ _ _; rw [HXS.out]; exact hown
        clear hown hst e1 e2 e3 e4 e5 hXr
        go_wp2_with (go_at_call 18; refine (exprK_any _ _).mono ?_; rw [hkq]; rintro e w' ⟨rfl, rfl⟩)
        go_roundw
        case rel => exact ⟨i + 1, by omega, by go_num, HST.out.kept ((Below.refl _ _).alloc (Nat.le_refl _) _) (Nat.le_refl _), HOW.out.alloc _, b1 _⟩
        case measure => simp [intOf]; omega
      | false =>
        rw [hkq, if_neg (by simp)] at HXS
        have HOW : Hid (∀ o o', ((wr.alloc o).alloc o').ownsRow w.heap.size 9 1 u5 (bnTo E ps i).length ((bnTo E ps i).map strL)) := fun o o' => (hown.alloc _).alloc _
        obtain ⟨t, ht⟩ : ∃ t, (E (p + d)).text = t := ⟨_, rfl⟩
        rw [ht] at k1
        have HT : Hid ((E (p + d)).text = t) := ht
        clear hown hst e1 e2 e3 e4 e5 hXr ht
        go_wp2_with (first
          | (go_at_call 18; refine (exprK_any _ _).mono ?_; rw [hkq]; rintro e w' ⟨rfl, rfl⟩)
          | (at_builtin; refine app_own _ rfl _ _ 24 rfl w.heap.size 9 (.string ⟨#[]⟩) 16 Tryz.underlying24 info9 rfl _ _ _ rfl (HOW.out _ _) ⟨_, 0, none⟩ 1 1 [.string t] rfl rfl ?c1 ?c2 ?c3 ?c4 ?c5 ?_)
          | go_in)
        case c1 => exact two_one _ _ (.string t) 9
        case c2 => first | rfl | (intro u hu; simp at hu; subst hu; rfl)
        case c3 => unfold maxLen; omega
        case c4 => omega
        case c5 => first | omega | (simp; omega)
        intro v' w' hown' hg
        have hb' := below_grown ((b1 _).alloc (by simp; omega) _) (HOW.out _ _) hg (by simp; omega)
        have hown3 : w'.ownsRow w.heap.size 9 1 v' (bnTo E ps (i + 1)).length ((bnTo E ps (i + 1)).map strL) := by
          rw [HXS.out, List.length_append, List.map_append, HT.out]
          simpa [strL_of] using hown'
        have hst3 : StrR w' v' (bnTo E ps (i + 1)) := StrR.own hown3 (by rw [HXS.out]; simp)
        clear hown' hg
        go_wp2
        go_roundw
        case rel => exact ⟨i + 1, by omega, by go_num, hst3, hown3, hb'⟩
        case measure => simp [intOf]; omega
    · have h' : ¬ (i : Int) < (ps.length : Int) := by omega
      obtain rfl : i = ps.length := by omega
      clear hown
      go_wp2
      go_ret
      exact ⟨_, rfl, hst, hbel⟩

end Go.Proofs.YtifgaaemdojmpaaGreatDoor.ex

namespace Go.Proofs.YtifgaaemdojmpaaGreatDoor.ex
open Go.ChangeShapes Go.WideShapes Go.ChangeAt Go.RowKit Go.Deep Go.Maps
set_option linter.unusedVariables false
set_option linter.unusedSimpArgs false

set_option maxRecDepth 100000 in
set_option maxHeartbeats 1000000 in
theorem sall_any (E : Nat → Ex) (b n cap : Nat) (hn : n ≤ 1048576) (hc : n ≤ cap ∧ cap ≤ 9223372036854775807) (ht : ∀ i, i < n → (E i).text.size ≤ 1048576) (w : World) (hX : XsB w b n E) :
    Calls Tryz.prog 7 #[.slice (some ⟨b, 0, none⟩) n cap] w fun e w' => e = .returned (.bool (okAll E n)) ∧ Below w.heap.size w w' := by
  by_cases h0 : n = 0
  · subst h0
    have HO : Hid (okAll E 0 = false) := all_out E (by omega)
    go_enter Tryz.func7, Tryz.ntmps7
    go_wp2_with fail
    go_ret
    exact ⟨ret_bool HO.out.symm, Below.refl _ _⟩
  have h0' : (0 : Int) < (n : Int) := by omega
  have h0n : 0 < n := by omega
  by_cases h1 : n ≤ 3000
  · have h1' : (n : Int) ≤ 3000 := by omega
    obtain ⟨g0, _, _, _⟩ := hX 0 (by omega)
    rw [Nat.zero_mul] at g0
    cases hx : exprK (E 0).kind with
    | false =>
      have HO : Hid (okAll E n = false) := by show _ = _; simp [okAll, hx]
      go_enter Tryz.func7, Tryz.ntmps7
      go_wp2_with (go_at_call 18; refine (exprK_any _ _).mono ?_; rw [hx]; rintro e w' ⟨rfl, rfl⟩)
      go_ret
      exact ⟨ret_bool HO.out.symm, Below.refl _ _⟩
    | true =>
      have HO : Hid (okAll E n = ok E 61 0 n) := by show _ = _; simp [okAll, hx, h0n, h1]
      have hk : okKind (E 0).kind = true := by
        simp only [exprK, decide_eq_true_eq] at hx
        simp only [okKind, decide_eq_true_eq]
        omega
      have HN : Hid (Calls Tryz.prog 19 #[.slice (some ⟨b, 0, none⟩) n cap, .int .i64 0] w fun e w' => e = .returned (.bool (ok E 61 0 n)) ∧ Below w.heap.size w w') := by
        have := sok_any E b n h1 ht 61 (Nat.le_refl _) 0 n cap w hX hk (by omega) (by omega) hc.1 hc.2
        show Calls _ _ _ _ _
        simpa using this
      go_enter Tryz.func7, Tryz.ntmps7
      go_wp2_with (first
        | (go_at_call 18; refine (exprK_any _ _).mono ?_; rw [hx]; rintro e w' ⟨rfl, rfl⟩)
        | (go_at_call 19; refine HN.out.mono ?_; rintro e w1 ⟨rfl, hl1⟩))
      go_ret
      exact ⟨ret_bool HO.out.symm, hl1⟩
  · have h1' : ¬ (n : Int) ≤ 3000 := by omega
    have HO : Hid (okAll E n = false) := all_out E (by omega)
    go_enter Tryz.func7, Tryz.ntmps7
    go_wp2_with fail
    go_ret
    exact ⟨ret_bool HO.out.symm, Below.refl _ _⟩

end Go.Proofs.YtifgaaemdojmpaaGreatDoor.ex
