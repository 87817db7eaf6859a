import Derived.Test.YthklplfpnciodaaGreatDoorXD
namespace Go.Proofs.YthklplfpnciodaaGreatDoor.ex
open Go.ChangeShapes Go.WideShapes Go.ChangeAt Go.RowKit Go.Deep Go.Maps
set_option linter.unusedVariables false
set_option linter.unusedSimpArgs false

/-- The tables lie in their blocks. -/
structure Tabs (w : World) : Prop where
  esc : es.EscB w
  bet : BetB w
  shp : ShpB w
theorem Tabs.below {w w' : World} (h : Tabs w) (hb : Below w.heap.size w w') : Tabs w' := ⟨h.esc.below hb, h.bet.below hb, h.shp.below hb⟩

theorem head_at {e : Ex} {v : Bool} (h : headB e = v) (z : Int) (hs : e.text.size ≤ 1048576) (w : World) (T : Tabs w) :
    Calls Tryz.prog 50 #[.agg #[.int .i64 e.kind, .string e.text, .int .i64 e.n, .int .i64 z]] w fun e' w' => e' = .returned (.bool v) ∧ Below w.heap.size w w' := by
  have h' : headB ⟨e.kind, e.text, e.n, z⟩ = v := h
  exact h' ▸ head_any e.kind e.n z e.text hs w T.esc T.bet T.shp

theorem fit_at {E : Nat → Ex} {b n C : Nat} {ps : List Nat} {v : Bool} {A lo up : Int} (h : pf A lo up [] (ps.map E) = v) (av : Option Addr) (cap : Nat) (u m : Int) (w : World) (hX : XsB w b n E) (hps : ∀ q ∈ ps, q < n) (ht : ∀ i, i < n → (E i).text.size ≤ 1048576) (hP : PsB w av (ps.map (partV E b C))) (hlen : ps.length ≤ 3000) (hc : ps.length ≤ cap ∧ cap ≤ 9223372036854775807) :
    Calls Tryz.prog 51 #[.slice av ps.length cap, .agg #[.int .i64 A, .int .i64 lo, .int .i64 up, .int .i64 u, .int .i64 m]] w fun e w' => e = .returned (.bool v) ∧ Below w.heap.size w w' := h ▸ fit_any E b n C ps av cap A lo up u m w hX hps ht hP hlen hc

theorem cut_no {E : Nat → Ex} {b n p len cap : Nat} {a : Option Addr} {w : World} (h : cutP E p len = none) (hX : XsB w b n E) (hp : p + len ≤ n) (hn : n ≤ 3000) (hc : len ≤ cap ∧ cap ≤ 1099511627776) (ha : len = 0 ∨ a = some ⟨b, p * 4, none⟩) :
    Calls Tryz.prog 40 #[.slice a len cap, SZX] w fun e w' => e = .returned (.tuple #[.slice none 0 0, .bool false]) ∧ Below w.heap.size w w' := by
  refine (cut_any E b n p len cap a w hX hp hn hc ha).mono ?_
  rintro e w' ⟨⟨_, rfl⟩ | ⟨ps, v, h1, _⟩, hl⟩
  · exact ⟨rfl, hl⟩
  · rw [h] at h1; cases h1

theorem cut_yes {E : Nat → Ex} {b n p len cap : Nat} {a : Option Addr} {w : World} {ps : List Nat} (h : cutP E p len = some ps) (hX : XsB w b n E) (hp : p + len ≤ n) (hn : n ≤ 3000) (hc : len ≤ cap ∧ cap ≤ 1099511627776) (ha : len = 0 ∨ a = some ⟨b, p * 4, none⟩) :
    Calls Tryz.prog 40 #[.slice a len cap, SZX] w fun e w' => ∃ av cap', e = .returned (.tuple #[.slice av ps.length cap', .bool true]) ∧ (ps.length ≤ cap' ∧ cap' ≤ 9223372036854775807) ∧ PsB w' av (ps.map (partV E b (p + cap))) ∧ Below w.heap.size w w' := by
  refine (cut_any E b n p len cap a w hX hp hn hc ha).mono ?_
  rintro e w' ⟨⟨h1, _⟩ | ⟨qs, v, h1, rfl, ho⟩, hl⟩
  · rw [h] at h1; cases h1
  · rw [h] at h1
    cases h1
    obtain ⟨_, av, cap', rfl, h2, h3, h4⟩ := PsB.own ho
    exact ⟨av, cap', rfl, ⟨h2, by unfold maxLen at h3; omega⟩, h4, hl⟩

theorem ok_size {E : Nat → Ex} {r p len : Nat} (h : ¬ (E p).size = (len : Int) - 1) : ok E (r + 1) p len = false := by simp [ok, h]
theorem ok_head {E : Nat → Ex} {r p len : Nat} (h : headB (E p) = false) : ok E (r + 1) p len = false := by simp [ok, h]
theorem ok_cut {E : Nat → Ex} {r p len : Nat} (h : cutP E (p + 1) (len - 1) = none) : ok E (r + 1) p len = false := by simp [ok, h]
theorem ok_fit {E : Nat → Ex} {r p len : Nat} {ps : List Nat} (h : cutP E (p + 1) (len - 1) = some ps) (hf : pf (aheadOf (E p).kind) (leastOf (E p).kind) (mostOf (E p).kind) [] (ps.map E) = false) : ok E (r + 1) p len = false := by simp [ok, h, hf]
theorem ok_parts {E : Nat → Ex} {r p len : Nat} {ps : List Nat} (hs : (E p).size = (len : Int) - 1) (hh : headB (E p) = true) (h : cutP E (p + 1) (len - 1) = some ps) (hf : pf (aheadOf (E p).kind) (leastOf (E p).kind) (mostOf (E p).kind) [] (ps.map E) = true) : ok E (r + 1) p len = ps.all fun q => ok E r q ((E q).size.toNat + 1) := by simp [ok, hs, hh, h, hf]

theorem all_no {E : Nat → Ex} {r j : Nat} {ps : List Nat} (hj : j < ps.length) (h : ok E r ps[j] ((E ps[j]).size.toNat + 1) = false) : (ps.all fun q => ok E r q ((E q).size.toNat + 1)) = false := by
  rw [List.all_eq_false]
  exact ⟨ps[j], List.getElem_mem hj, by simp [h]⟩
def AllOk (E : Nat → Ex) (r : Nat) (ps : List Nat) (j : Nat) : Prop := ∀ q (h : q < ps.length), q < j → ok E r ps[q] ((E ps[q]).size.toNat + 1) = true
theorem all_yes {E : Nat → Ex} {r : Nat} {ps : List Nat} (h : AllOk E r ps ps.length) : (ps.all fun q => ok E r q ((E q).size.toNat + 1)) = true := by
  rw [List.all_eq_true]
  intro x hx
  obtain ⟨i, hi, rfl⟩ := List.getElem_of_mem hx
  exact h i hi hi

theorem four_new (w : World) (a b c d : Value) (e : TypeId) : (w.alloc (.cells #[a, b, c, d] e)).cell? ⟨w.heap.size, 0, none⟩ = some a := by simp [go_sem]

set_option maxRecDepth 100000 in
set_option maxHeartbeats 1000000 in
theorem node_any (E : Nat → Ex) (b n : Nat) (hn : n ≤ 3000) (ht : ∀ i, i < n → (E i).text.size ≤ 1048576) : ∀ (r : Nat), r ≤ 61 → ∀ (p len cap : Nat) (w : World), XsB w b n E → Tabs w → 0 < len → p + len ≤ n → len ≤ cap → cap ≤ 1099511627776 →
    Calls Tryz.prog 33 #[.slice (some ⟨b, p * 4, none⟩) len cap, .int .i64 (61 - (r : Int))] w fun e w' => e = .returned (.bool (ok E r p len)) ∧ Below w.heap.size w w' := by
  intro r
  induction r with
  | zero =>
    intro _ p len cap w hX T hl hp hc hcap
    obtain ⟨g0, g1, g2, g3⟩ := hX p (by omega)
    have hl' : (0 : Int) < (len : Int) := by omega
    go_enter Tryz.func33, Tryz.ntmps33
    go_wp2_with fail
    go_ret
    exact ⟨rfl, (Below.refl _ _).alloc (Nat.le_refl _) _⟩
  | succ r ih =>
    intro hr p len cap w hX T hl hp hc hcap
    obtain ⟨g0, g1, g2, g3⟩ := hX p (by omega)
    have hl' : (0 : Int) < (len : Int) := by omega
    obtain ⟨ar, har⟩ : ∃ ar : Int, (61 - ((r + 1 : Nat) : Int)) = ar := ⟨_, rfl⟩
    rw [har]
    have har0 : ¬ (60 : Int) < ar := by omega
    have har1 : ar + 1 = 61 - (r : Int) := by omega
    have har2 : 0 ≤ ar := by omega
    clear har
    by_cases hsz : (E p).size = (len : Int) - 1
    · have HZ : Hid ((E p).size = (len : Int) - 1) := hsz
      rw [hsz] at g3
      clear hsz
      have b0 : Below w.heap.size w (w.alloc (.cells #[.int .i64 (E p).kind, .string (E p).text, .int .i64 (E p).n, .int .i64 ((len : Int) - 1)] 38)) := (Below.refl _ _).alloc (Nat.le_refl _) _
      have hts : (E p).text.size ≤ 1048576 := ht p (by omega)
      have T0 := T.below b0
      cases hh : headB (E p) with
      | false =>
        have HO : Hid (ok E (r + 1) p len = false) := ok_head hh
        go_enter Tryz.func33, Tryz.ntmps33
        go_wp2_with (go_at_call 50; refine (head_at hh _ hts _ T0).mono ?_; rintro e w1 ⟨rfl, hl1⟩)
        go_ret
        exact ⟨ret_bool HO.out.symm, b0.trans (hl1.mono b0.size)⟩
      | true =>
        have hok : okKind (E p).kind = true := by simp only [headB, Bool.and_eq_true] at hh; exact hh.1
        simp only [okKind, decide_eq_true_eq] at hok
        obtain ⟨m, hm⟩ : ∃ m : Nat, (E p).kind = m := ⟨(E p).kind.toNat, by omega⟩
        have HM : Hid ((E p).kind = m) := hm
        have hm1 : 1 ≤ m ∧ m ≤ 20 := by omega
        have hm21 : (m : Int) < 21 := by omega
        have hX0 := hX.below b0
        have hbox : (w.alloc (.cells #[.int .i64 (E p).kind, .string (E p).text, .int .i64 (E p).n, .int .i64 ((len : Int) - 1)] 38)).cell? ⟨w.heap.size, 0, none⟩ = some (.int .i64 (E p).kind) := four_new _ _ _ _ _ _
        have hs0 : w.heap.size < (w.alloc (.cells #[.int .i64 (E p).kind, .string (E p).text, .int .i64 (E p).n, .int .i64 ((len : Int) - 1)] 38)).heap.size := by simp
        obtain ⟨a1, ha1⟩ : ∃ a1, (if cap = 1 then some (⟨b, p * 4, none⟩ : Addr) else some ⟨b, p * 4 + 4, none⟩) = a1 := ⟨_, rfl⟩
        have HA1 : Hid (len - 1 = 0 ∨ a1 = some ⟨b, (p + 1) * 4, none⟩) := by
          show _ ∨ _
          rw [← ha1, show (p + 1) * 4 = p * 4 + 4 by omega]
          split
          · left; omega
          · right; rfl
        clear hm hok
        cases hcp : cutP E (p + 1) (len - 1) with
        | none =>
          have HO : Hid (ok E (r + 1) p len = false) := ok_cut hcp
          have HC : Hid (cutP E (p + 1) (len - 1) = none) := hcp
          clear hcp
          go_enter Tryz.func33, Tryz.ntmps33
          go_wp2_with (first
            | (go_at_call 50; refine (head_at hh _ hts _ T0).mono ?_; rintro e w1 ⟨rfl, hl1⟩; have hX1 := hX0.below hl1)
            | (go_at_call 40; refine (cut_no HC.out hX1 (by omega) hn (by omega) HA1.out).mono ?_; rintro e w2 ⟨rfl, hl2⟩))
          go_ret
          exact ⟨ret_bool HO.out.symm, (b0.trans (hl1.mono b0.size)).trans (hl2.mono (Nat.le_trans b0.size hl1.size))⟩
        | some ps =>
          have HC : Hid (cutP E (p + 1) (len - 1) = some ps) := hcp
          obtain ⟨hfits, hpl⟩ := cut_fits _ _ _ hcp
          have HFT : Hid (∀ q ∈ ps, Fits E (p + 1) (p + 1 + (len - 1)) q) := hfits
          have hpsn : ∀ q ∈ ps, q < n := fun q hq => by obtain ⟨h1, h2, h3⟩ := HFT.out q hq; omega
          clear hcp hfits
          cases hf : pf (aheadOf (E p).kind) (leastOf (E p).kind) (mostOf (E p).kind) [] (ps.map E) with
          | false =>
            have HO : Hid (ok E (r + 1) p len = false) := ok_fit HC.out hf
            rw [HM.out] at hf
            go_enter Tryz.func33, Tryz.ntmps33
            go_wp2_with (go_at_call 50; refine (head_at hh _ hts _ T0).mono ?_; rintro e w1 ⟨rfl, hl1⟩)
            have hX1 := hX0.below hl1
            have T1 := T0.below hl1
            have B1 := b0.trans (hl1.mono b0.size)
            have hbox1 := (hl1.cell (p := ⟨w.heap.size, 0, none⟩) hs0).trans hbox
            have hs1 : w.heap.size < w1.heap.size := Nat.lt_of_lt_of_le hs0 hl1.size
            clear hX0 T0 hbox hs0 hl1 b0
            go_wp2_with (go_at_call 40; refine (cut_yes HC.out hX1 (by omega) hn (by omega) HA1.out).mono ?_; rintro e w2 ⟨av2, cap2, rfl, hcap2, hP2, hl2⟩; have hX2 := hX1.below hl2; have T2 := T1.below hl2; have B2 := B1.trans (hl2.mono B1.size); have hbox2 := (hl2.cell (p := ⟨w.heap.size, 0, none⟩) hs1).trans hbox1; have hs2 : w.heap.size < w2.heap.size := Nat.lt_of_lt_of_le hs1 hl2.size; rw [HM.out] at hbox2; obtain ⟨c0, c1, c2, c3, c4⟩ := T2.shp.cells hm1; clear hX1 T1 hbox1 hl2 hs1 B1)
            go_wp2_with (go_at_call 51; refine (fit_at hf _ _ _ _ w2 hX2 hpsn ht hP2 (by omega) hcap2).mono ?_; rintro e w3 ⟨rfl, hl3⟩)
            go_ret
            exact ⟨ret_bool HO.out.symm, B2.trans (hl3.mono B2.size)⟩
          | true =>
            have HO : Hid (ok E (r + 1) p len = ps.all fun q => ok E r q ((E q).size.toNat + 1)) := ok_parts HZ.out hh HC.out hf
            rw [HM.out] at hf
            go_enter Tryz.func33, Tryz.ntmps33
            go_wp2_with (go_at_call 50; refine (head_at hh _ hts _ T0).mono ?_; rintro e w1 ⟨rfl, hl1⟩)
            have hX1 := hX0.below hl1
            have T1 := T0.below hl1
            have B1 := b0.trans (hl1.mono b0.size)
            have hbox1 := (hl1.cell (p := ⟨w.heap.size, 0, none⟩) hs0).trans hbox
            have hs1 : w.heap.size < w1.heap.size := Nat.lt_of_lt_of_le hs0 hl1.size
            clear hX0 T0 hbox hs0 hl1 b0
            go_wp2_with (go_at_call 40; refine (cut_yes HC.out hX1 (by omega) hn (by omega) HA1.out).mono ?_; rintro e w2 ⟨av2, cap2, rfl, hcap2, hP2, hl2⟩; have hX2 := hX1.below hl2; have T2 := T1.below hl2; have B2 := B1.trans (hl2.mono B1.size); have hbox2 := (hl2.cell (p := ⟨w.heap.size, 0, none⟩) hs1).trans hbox1; have hs2 : w.heap.size < w2.heap.size := Nat.lt_of_lt_of_le hs1 hl2.size; rw [HM.out] at hbox2; obtain ⟨c0, c1, c2, c3, c4⟩ := T2.shp.cells hm1; clear hX1 T1 hbox1 hl2 hs1 B1)
            go_wp2_with (go_at_call 51; refine (fit_at hf _ _ _ _ w2 hX2 hpsn ht hP2 (by omega) hcap2).mono ?_; rintro e w3 ⟨rfl, hl3⟩)
            have hX3 := hX2.below hl3
            have T3 := T2.below hl3
            have B3 := B2.trans (hl3.mono B2.size)
            obtain ⟨bb, off, hav, hP3⟩ := hP2.below hl3
            have hav' : ps.length = 0 ∨ av2 = some ⟨bb, off, none⟩ := by simpa using hav
            have hcell : ∀ i (h : i < ps.length), w3.cell? ⟨bb, off + i, none⟩ = some (partV E b (p + 1 + (cap - 1)) ps[i]) := fun i h => hP3 i _ (by simp [h])
            clear hX2 T2 hl3 hP2 B2 hP3 hav hbox2 hs2 c0 c1 c2 c3 c4
            go_loopw [9, 47] (fun _ x wr => ∃ j : Nat, j ≤ ps.length ∧ x = .int .i64 (j : Int) ∧ AllOk E r ps j ∧ Below w3.heap.size w3 wr) (fun _ x _ => ps.length - (intOf x).toNat)
            case atStart => exact ⟨0, Nat.zero_le _, rfl, fun q h hq => by omega, Below.refl _ _⟩
            case round =>
              obtain ⟨j, hj, rfl, hall, hbel⟩ := hrel
              have HA : Hid (AllOk E r ps j) := hall
              clear hall
              by_cases hjl : j < ps.length
              · have hjl' : (j : Int) < (ps.length : Int) := by omega
                obtain rfl := hav'.resolve_left (by omega)
                have c0 := hcell j hjl
                have c0r : wr.cell? ⟨bb, off + j, none⟩ = some (partV E b (p + 1 + (cap - 1)) ps[j]) := (hbel.cell (p := ⟨bb, _, none⟩) (World.block_lt_of_cell? _ _ c0)).trans c0
                unfold partV at c0r
                obtain ⟨f1, f2, f3⟩ := HFT.out _ (List.getElem_mem hjl)
                have HI := ih (by omega) ps[j] ((E ps[j]).size.toNat + 1) (p + 1 + (cap - 1) - ps[j]) wr (hX3.below hbel) (T3.below hbel) (by omega) (by omega) (by omega) (by omega)
                obtain ⟨Z, hZ⟩ : ∃ Z, (E ps[j]).size.toNat + 1 = Z := ⟨_, rfl⟩
                obtain ⟨Y, hY⟩ : ∃ Y, p + 1 + (cap - 1) - ps[j] = Y := ⟨_, rfl⟩
                rw [hZ, hY] at c0r HI
                have HI' : Hid (Calls Tryz.prog 33 #[.slice (some ⟨b, ps[j] * 4, none⟩) Z Y, .int .i64 (61 - (r : Int))] wr fun e w' => e = .returned (.bool (ok E r ps[j] Z)) ∧ Below wr.heap.size wr w') := HI
                clear HI c0
                cases hx : ok E r ps[j] Z with
                | true =>
                  rw [hx] at HI'
                  go_wp2_with (go_at_call 33; refine HI'.out.mono ?_; rintro e w4 ⟨rfl, hl4⟩)
                  go_roundw
                  case rel => exact ⟨j + 1, by omega, by go_num, fun q h hq => by
                    rcases Nat.lt_or_ge q j with h' | h'
                    · exact HA.out q h h'
                    · obtain rfl : q = j := by omega
                      rw [hZ]; exact hx, hbel.trans (hl4.mono hbel.size)⟩
                  case measure => simp [intOf]; omega
                | false =>
                  have HN : Hid (ok E (r + 1) p len = false) := by show _ = _; rw [HO.out]; exact all_no hjl (by rw [hZ]; exact hx)
                  rw [hx] at HI'
                  go_wp2_with (go_at_call 33; refine HI'.out.mono ?_; rintro e w4 ⟨rfl, hl4⟩)
                  go_ret
                  exact ⟨ret_bool HN.out.symm, B3.trans ((hbel.trans (hl4.mono hbel.size)).mono B3.size)⟩
              · have hjl' : ¬ (j : Int) < (ps.length : Int) := by omega
                obtain rfl : j = ps.length := by omega
                have HN : Hid (ok E (r + 1) p len = true) := by show _ = _; rw [HO.out]; exact all_yes HA.out
                go_wp2_with fail
                go_ret
                exact ⟨ret_bool HN.out.symm, B3.trans (hbel.mono B3.size)⟩
    · have HO : Hid (ok E (r + 1) p len = false) := ok_size hsz
      have hsb : ((E p).size == (len : Int) - 1) = false := by simpa using hsz
      go_enter Tryz.func33, Tryz.ntmps33
      go_wp2_with fail
      go_ret
      exact ⟨ret_bool HO.out.symm, (Below.refl _ _).alloc (Nat.le_refl _) _⟩

end Go.Proofs.YthklplfpnciodaaGreatDoor.ex
