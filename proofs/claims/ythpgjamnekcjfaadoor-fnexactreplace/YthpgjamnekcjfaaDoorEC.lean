import Derived.Test.YthpgjamnekcjfaaDoorEB
namespace Go.Proofs.YthpgjamnekcjfaaDoor.tt
open Go.ChangeShapes Go.WideShapes Go.ChangeAt Go.RowKit Go.Deep
set_option linter.unusedVariables false
set_option linter.unusedSimpArgs false

/-! ### Replace: both sides -/

set_option maxRecDepth 100000 in
set_option maxHeartbeats 4000000 in
theorem srep_any (E : Nat → En) (b n cap : Nat) (f t : ByteArray) (hf : f.size ≤ 1048576) (ht : t.size ≤ 1048576) (w : World) (hR : EnR w b 0 n E) (hS : SmE n E) (hn : n ≤ 1048576) (hcap : n ≤ cap) (hcl : cap ≤ maxLen) :
    Calls Tryd.prog 22 #[.slice (some ⟨b, 0, none⟩) n cap, .string f, .string t] w fun e w' => (∃ v, e = .returned v ∧ RowE w.heap.size w' v (reN E n f t) (fun k => reE f t (E k))) ∧ Below w.heap.size w w' := by
  have HT : Hid (Calls Tryd.prog 36 #[.slice (some ⟨b, 0, none⟩) n cap] w fun e w' => e = .returned (.bool (treeB E n)) ∧ Below w.heap.size w w') := stree_any E b 0 n cap w hR hS hn hcap hcl
  have HAF : Hid (∀ W, Calls Tryd.prog 50 #[.string f] W fun e w' => e = .returned (.bool (wd.aokB f)) ∧ w' = W) := fun W => wd.aspec_any f hf W
  have HAT : Hid (∀ W, Calls Tryd.prog 50 #[.string t] W fun e w' => e = .returned (.bool (wd.aokB t)) ∧ w' = W) := fun W => wd.aspec_any t ht W
  have HCP : Hid (∀ W, Below w.heap.size w W → Calls Tryd.prog 51 #[.slice (some ⟨b, 0, none⟩) n cap] W fun e w' => (∃ v, e = .returned v ∧ w'.ownsRow W.heap.size 49 4 v n (enC E n) ∧ v ≠ .slice none 0 0) ∧ Below W.heap.size W w') := fun W hW => copy_any E b 0 n cap W (hR.below hW) hn
  have HSM : Hid (SmE n E) := hS
  have HF1 : Hid True := trivial
  clear hR hS
  cases ht0 : treeB E n with
  | false =>
    rw [ht0] at HT
    have HN : Hid (reN E n f t = 0) := reN_no (by unfold reB; rw [ht0]; simp)
    clear ht0
    go_enter Tryd.func22, Tryd.ntmps22
    go_wp2_with (first
      | (go_at_call 36; refine HT.out.mono ?_; rintro e w1 ⟨rfl, hl1⟩))
    go_ret
    exact ⟨⟨_, rfl, by rw [HN.out]; exact row_none w w1 hl1 _⟩, hl1.alloc hl1.size _⟩
  | true =>
    rw [ht0] at HT
    cases hf0 : wd.aokB f with
    | false =>
      rw [hf0] at HAF
      have HN : Hid (reN E n f t = 0) := reN_no (by unfold reB; rw [hf0]; simp)
      clear hf0
      go_enter Tryd.func22, Tryd.ntmps22
      go_wp2_with (first
        | (go_at_call 36; refine HT.out.mono ?_; rintro e w1 ⟨rfl, hl1⟩)
        | (have hF := HF1; go_at_call 50; refine (HAF.out _).mono ?_; rintro e w2 ⟨rfl, hw2⟩; obtain rfl := hw2.symm; clear HF1 hF))
      go_ret
      exact ⟨⟨_, rfl, by rw [HN.out]; exact row_none w w1 hl1 _⟩, hl1.alloc hl1.size _⟩
    | true =>
      rw [hf0] at HAF
      cases hg0 : wd.aokB t with
      | false =>
        rw [hg0] at HAT
        have HN : Hid (reN E n f t = 0) := reN_no (by unfold reB; rw [hg0]; simp)
        clear hg0
        go_enter Tryd.func22, Tryd.ntmps22
        go_wp2_with (first
          | (go_at_call 36; refine HT.out.mono ?_; rintro e w1 ⟨rfl, hl1⟩)
          | (have hF := HF1; go_at_call 50; refine (HAF.out _).mono ?_; rintro e w2 ⟨rfl, hw2⟩; obtain rfl := hw2.symm; clear HF1 hF)
          | (go_at_call 50; refine (HAT.out _).mono ?_; rintro e w3 ⟨rfl, hw3⟩; obtain rfl := hw3.symm))
        go_ret
        exact ⟨⟨_, rfl, by rw [HN.out]; exact row_none w w1 hl1 _⟩, hl1.alloc hl1.size _⟩
      | true =>
        rw [hg0] at HAT
        by_cases hL : f.size = t.size
        rotate_left
        · have hL' : ¬ (f.size : Int) = (t.size : Int) := by omega
          have hL2 : ((f.size : Int) == (t.size : Int)) = false := by rw [beq_eq_false_iff_ne]; omega
          have HN : Hid (reN E n f t = 0) := reN_no (by unfold reB; rw [decide_eq_false hL]; simp)
          go_enter Tryd.func22, Tryd.ntmps22
          go_wp2_with (first
            | (go_at_call 36; refine HT.out.mono ?_; rintro e w1 ⟨rfl, hl1⟩)
            | (have hF := HF1; go_at_call 50; refine (HAF.out _).mono ?_; rintro e w2 ⟨rfl, hw2⟩; obtain rfl := hw2.symm; clear HF1 hF)
            | (go_at_call 50; refine (HAT.out _).mono ?_; rintro e w3 ⟨rfl, hw3⟩; obtain rfl := hw3.symm))
          go_ret
          exact ⟨⟨_, rfl, by rw [HN.out]; exact row_none w w1 hl1 _⟩, hl1.alloc hl1.size _⟩
        have hL' : (f.size : Int) = (t.size : Int) := by omega
        have hL2 : ((f.size : Int) == (t.size : Int)) = true := by rw [beq_iff_eq]; omega
        have HN : Hid (reN E n f t = n) := reN_yes (by unfold reB; rw [ht0, hf0, hg0, decide_eq_true hL]; rfl)
        have hf1 : 1 ≤ f.size := aok_pos hf0
        have HFT : Hid (f.size = t.size) := hL
        clear ht0 hf0 hg0
        go_enter Tryd.func22, Tryd.ntmps22
        go_wp2_with (first
          | (go_at_call 36; refine HT.out.mono ?_; rintro e w1 ⟨rfl, hl1⟩)
          | (have hF := HF1; go_at_call 50; refine (HAF.out _).mono ?_; rintro e w2 ⟨rfl, hw2⟩; obtain rfl := hw2.symm; clear HF1 hF)
          | (go_at_call 50; refine (HAT.out _).mono ?_; rintro e w3 ⟨rfl, hw3⟩; obtain rfl := hw3.symm)
          | (go_at_call 51; refine (HCP.out _ hl1).mono ?_; rintro e w4 ⟨⟨v, rfl, hown, hv⟩, hl4⟩; obtain ⟨g, cp, fu, rfl, hgb, hnc, hcm, hrow, hE⟩ := own_rowE hown hv; refine Hid.out ?_))
        refine Lib.hid ?_
        have HBE0 : Hid (Below w.heap.size w w4) := hl1.trans (hl4.mono hl1.size)
        have hgw : w.heap.size ≤ g := Nat.le_trans hl1.size hgb
        have HR0 : Hid (w4.rowIs g 49 (cp * 4) (fun j => if j < n * 4 then cellE (mixE f t E 0) j else fu j)) := by
          have := row_of hrow (by omega) hE
          refine this.congr fun j hj => ?_
          by_cases h : j < n * 4
          · rw [if_pos h, if_pos h]; congr 1
          · rw [if_neg h, if_neg h]
        clear hrow hE hown hv hgb
        go_wp2
        go_loopw [8] (fun x wr => ∃ i : Nat, i ≤ n ∧ x = .int .i64 (i : Int) ∧ wr.rowIs g 49 (cp * 4) (fun j => if j < n * 4 then cellE (mixE f t E i) j else fu j) ∧ Below w.heap.size w wr) (fun x _ => n - (intOf x).toNat)
        case atStart => exact ⟨0, Nat.zero_le _, rfl, HR0.out, HBE0.out⟩
        case round =>
          obtain ⟨i, hi, rfl, hrow, hbel⟩ := hrel
          have HBE : Hid (Below w.heap.size w wr) := hbel
          have HRW : Hid (wr.rowIs g 49 (cp * 4) (fun j => if j < n * 4 then cellE (mixE f t E i) j else fu j)) := hrow
          by_cases hil : i < n
          · have hil' : (i : Int) < (n : Int) := by omega
            have hi0 : (0 : Int) ≤ (i : Int) := by omega
            have hsm := HSM.out i hil
            have hEn := (row_enr hrow (by omega)) i hil
            rw [Nat.zero_add, show mixE f t E i i = E i by unfold mixE; rw [if_neg (by omega)]] at hEn
            obtain ⟨c0, c1, c2', c3⟩ := hEn
            have HDD : Hid ((reE f t (E i)).data = ⟨(rp f.data.toList t.data.toList (E i).data.data.toList).toArray⟩) := rfl
            obtain ⟨P, hP⟩ : ∃ P, (E i).path = P := ⟨_, rfl⟩
            obtain ⟨kd, hk⟩ : ∃ k, (E i).kind = k := ⟨_, rfl⟩
            obtain ⟨d, hd'⟩ : ∃ d, (E i).data = d := ⟨_, rfl⟩
            obtain ⟨x, hxe⟩ : ∃ x, (E i).exec = x := ⟨_, rfl⟩
            rw [hd'] at HDD c2' hsm
            rw [hP] at c0
            rw [hk] at c1
            rw [hxe] at c3
            obtain ⟨D, hD⟩ : ∃ D : ByteArray, (⟨(rp f.data.toList t.data.toList d.data.toList).toArray⟩ : ByteArray) = D := ⟨_, rfl⟩
            rw [hD] at HDD
            have HST : Hid (∀ W, Below wr.heap.size wr W → (W.setCell ⟨g, i * 4 + 2, none⟩ (.string D)).rowIs g 49 (cp * 4) (fun j => if j < n * 4 then cellE (mixE f t E (i + 1)) j else fu j) ∧ Below w.heap.size w (W.setCell ⟨g, i * 4 + 2, none⟩ (.string D)) ∧ W.cell? ⟨g, i * 4 + 2, none⟩ = some (.string d) ∧ W.frozen? ⟨g, i * 4 + 2, none⟩ = false) := fun W hW => by
              have h1 := HRW.out.of_block (hW.block _ HRW.out.lt)
              have h2 := row_set h1 hil
              rw [HDD.out] at h2
              exact ⟨h2, (HBE.out.trans (hW.mono HBE.out.size)).setCell (p := ⟨g, i * 4 + 2, none⟩) hgw _, (hW.cell (p := ⟨g, i * 4 + 2, none⟩) HRW.out.lt).trans c2', h1.frozen _⟩
            have HSW : Hid (∀ W, Calls Tryd.prog 52 #[.string d, .string f, .string t] W fun e w' => e = .returned (.string D) ∧ Below W.heap.size W w') := fun W => by rw [← hD]; exact swap_any d f t hsm.2 hf1 hf HFT.out W
            clear hP hk hd' hxe hD hrow hbel hsm c0 c1 c3
            go_wp2_with (go_at_call 52; refine (HSW.out _).mono ?_; rintro e w5 ⟨rfl, hl5⟩; obtain ⟨r1, r2, r3, r4⟩ := HST.out _ hl5)
            have HX1 : Hid ((w5.setCell ⟨g, i * 4 + 2, none⟩ (.string D)).rowIs g 49 (cp * 4) (fun j => if j < n * 4 then cellE (mixE f t E (i + 1)) j else fu j)) := r1
            have HX2 : Hid (Below w.heap.size w (w5.setCell ⟨g, i * 4 + 2, none⟩ (.string D))) := r2
            go_roundw
            case rel => exact ⟨i + 1, by omega, by go_num, HX1.out, HX2.out⟩
            case measure => simp [intOf]; omega
          · have hil' : ¬ (i : Int) < (n : Int) := by omega
            obtain rfl : i = n := by omega
            clear hrow hbel
            go_wp2
            go_ret
            exact ⟨⟨_, rfl, by rw [HN.out]; exact ⟨g, cp, _, rfl, hgw, hnc, hcm, HRW.out, mix_all (row_enr HRW.out (by omega))⟩⟩, HBE.out⟩

set_option maxRecDepth 100000 in
set_option maxHeartbeats 4000000 in
theorem irep_any (E : Nat → En) (b n cap : Nat) (f t : ByteArray) (hf : f.size ≤ 1048576) (ht : t.size ≤ 1048576) (w : World) (hR : EnR w b 0 n E) (hS : SmE n E) (hn : n ≤ 1048576) (hm : ML w) (hC : AtC E) (hTB : wd.TabB w) :
    Calls Tryd.prog 23 #[.slice (some ⟨b, 0, none⟩) n cap, .string f, .string t] w fun e w' => (∃ v, e = .returned v ∧ RowE w.heap.size w' v (reN E n f t) (fun k => reE f t (E k))) ∧ Below w.heap.size w w' := by
  have HT : Hid (Calls Tryd.prog 42 #[.slice (some ⟨b, 0, none⟩) n cap] w fun e w' => e = .returned (.bool (treeB E n)) ∧ Below w.heap.size w w') := itree_any E b 0 n cap w hR hS hn hm hC
  have HAF : Hid (∀ W, Below w.heap.size w W → Calls Tryd.prog 53 #[.string f] W fun e w' => e = .returned (.bool (wd.aokB f)) ∧ Below W.heap.size W w') := fun W hW => wd.aimpl_any f hf W (hTB.below hW)
  have HAT : Hid (∀ W, Below w.heap.size w W → Calls Tryd.prog 53 #[.string t] W fun e w' => e = .returned (.bool (wd.aokB t)) ∧ Below W.heap.size W w') := fun W hW => wd.aimpl_any t ht W (hTB.below hW)
  have HCP : Hid (∀ W, Below w.heap.size w W → Calls Tryd.prog 54 #[.slice (some ⟨b, 0, none⟩) n cap] W fun e w' => (∃ v, e = .returned v ∧ w'.ownsRow W.heap.size 49 4 v n (enC E n) ∧ v ≠ .slice none 0 0) ∧ Below W.heap.size W w') := fun W hW => cloned_any E b 0 n cap W (hR.below hW) hS hn
  have HML : Hid (∀ W, Below w.heap.size w W → ML W) := fun W hW => hm.below hW
  have HSM : Hid (SmE n E) := hS
  have HF1 : Hid True := trivial
  clear hR hS hm hC hTB
  cases ht0 : treeB E n with
  | false =>
    rw [ht0] at HT
    have HN : Hid (reN E n f t = 0) := reN_no (by unfold reB; rw [ht0]; simp)
    clear ht0
    go_enter Tryd.func23, Tryd.ntmps23
    go_wp2_with (first
      | (go_at_call 42; refine HT.out.mono ?_; rintro e w1 ⟨rfl, hl1⟩))
    go_ret
    exact ⟨⟨_, rfl, by rw [HN.out]; exact row_none w w1 hl1 _⟩, hl1.alloc hl1.size _⟩
  | true =>
    rw [ht0] at HT
    by_cases hL : f.size = t.size
    rotate_left
    · have hL' : ¬ (f.size : Int) = (t.size : Int) := by omega
      have hL2 : ((f.size : Int) == (t.size : Int)) = false := by rw [beq_eq_false_iff_ne]; omega
      have HN : Hid (reN E n f t = 0) := reN_no (by unfold reB; rw [decide_eq_false hL]; simp)
      go_enter Tryd.func23, Tryd.ntmps23
      go_wp2_with (first
        | (go_at_call 42; refine HT.out.mono ?_; rintro e w1 ⟨rfl, hl1⟩))
      go_ret
      exact ⟨⟨_, rfl, by rw [HN.out]; exact row_none w w1 hl1 _⟩, hl1.alloc hl1.size _⟩
    have hL' : (f.size : Int) = (t.size : Int) := by omega
    have hL2 : ((f.size : Int) == (t.size : Int)) = true := by rw [beq_iff_eq]; omega
    cases hf0 : wd.aokB f with
    | false =>
      rw [hf0] at HAF
      have HN : Hid (reN E n f t = 0) := reN_no (by unfold reB; rw [hf0]; simp)
      clear hf0
      go_enter Tryd.func23, Tryd.ntmps23
      go_wp2_with (first
        | (go_at_call 42; refine HT.out.mono ?_; rintro e w1 ⟨rfl, hl1⟩)
        | (have hF := HF1; go_at_call 53; refine (HAF.out _ hl1).mono ?_; rintro e w2 ⟨rfl, hl2⟩; have hB2 : Below w.heap.size w w2 := hl1.trans (hl2.mono hl1.size); clear HF1 hF))
      go_ret
      exact ⟨⟨_, rfl, by rw [HN.out]; exact row_none w w2 hB2 _⟩, hB2.alloc hB2.size _⟩
    | true =>
      rw [hf0] at HAF
      cases hg0 : wd.aokB t with
      | false =>
        rw [hg0] at HAT
        have HN : Hid (reN E n f t = 0) := reN_no (by unfold reB; rw [hg0]; simp)
        clear hg0
        go_enter Tryd.func23, Tryd.ntmps23
        go_wp2_with (first
          | (go_at_call 42; refine HT.out.mono ?_; rintro e w1 ⟨rfl, hl1⟩)
          | (have hF := HF1; go_at_call 53; refine (HAF.out _ hl1).mono ?_; rintro e w2 ⟨rfl, hl2⟩; have hB2 : Below w.heap.size w w2 := hl1.trans (hl2.mono hl1.size); clear HF1 hF)
          | (go_at_call 53; refine (HAT.out _ hB2).mono ?_; rintro e w3 ⟨rfl, hl3⟩; have hB3 : Below w.heap.size w w3 := hB2.trans (hl3.mono hB2.size)))
        go_ret
        exact ⟨⟨_, rfl, by rw [HN.out]; exact row_none w w3 hB3 _⟩, hB3.alloc hB3.size _⟩
      | true =>
        rw [hg0] at HAT
        have HN : Hid (reN E n f t = n) := reN_yes (by unfold reB; rw [ht0, hf0, hg0, decide_eq_true hL]; rfl)
        have hf1 : 1 ≤ f.size := aok_pos hf0
        have HFT : Hid (f.size = t.size) := hL
        clear ht0 hf0 hg0
        go_enter Tryd.func23, Tryd.ntmps23
        go_wp2_with (first
          | (go_at_call 42; refine HT.out.mono ?_; rintro e w1 ⟨rfl, hl1⟩)
          | (have hF := HF1; go_at_call 53; refine (HAF.out _ hl1).mono ?_; rintro e w2 ⟨rfl, hl2⟩; have hB2 : Below w.heap.size w w2 := hl1.trans (hl2.mono hl1.size); clear HF1 hF)
          | (go_at_call 53; refine (HAT.out _ hB2).mono ?_; rintro e w3 ⟨rfl, hl3⟩; have hB3 : Below w.heap.size w w3 := hB2.trans (hl3.mono hB2.size))
          | (go_at_call 54; refine (HCP.out _ hB3).mono ?_; rintro e w4 ⟨⟨v, rfl, hown, hv⟩, hl4⟩; obtain ⟨g, cp, fu, rfl, hgb, hnc, hcm, hrow, hE⟩ := own_rowE hown hv; refine Hid.out ?_))
        refine Lib.hid ?_
        have HBE0 : Hid (Below w.heap.size w w4) := hB3.trans (hl4.mono hB3.size)
        have hgw : w.heap.size ≤ g := Nat.le_trans hB3.size hgb
        have HR0 : Hid (w4.rowIs g 49 (cp * 4) (fun j => if j < n * 4 then cellE (mixE f t E 0) j else fu j)) := by
          have := row_of hrow (by omega) hE
          refine this.congr fun j hj => ?_
          by_cases h : j < n * 4
          · rw [if_pos h, if_pos h]; congr 1
          · rw [if_neg h, if_neg h]
        clear hrow hE hown hv hgb
        go_wp2
        go_loopw [8, 9, 35] (fun _ _ x wr => ∃ i : Nat, i ≤ n ∧ x = .int .i64 (i : Int) ∧ wr.rowIs g 49 (cp * 4) (fun j => if j < n * 4 then cellE (mixE f t E i) j else fu j) ∧ Below w.heap.size w wr) (fun _ _ x _ => n - (intOf x).toNat)
        case atStart => exact ⟨0, Nat.zero_le _, rfl, HR0.out, HBE0.out⟩
        case round =>
          obtain ⟨i, hi, rfl, hrow, hbel⟩ := hrel
          have HBE : Hid (Below w.heap.size w wr) := hbel
          have HRW : Hid (wr.rowIs g 49 (cp * 4) (fun j => if j < n * 4 then cellE (mixE f t E i) j else fu j)) := hrow
          by_cases hil : i < n
          · have hil' : (i : Int) < (n : Int) := by omega
            have hi0 : (0 : Int) ≤ (i : Int) := by omega
            have hsm := HSM.out i hil
            have hEn := (row_enr hrow (by omega)) i hil
            rw [Nat.zero_add, show mixE f t E i i = E i by unfold mixE; rw [if_neg (by omega)]] at hEn
            obtain ⟨c0, c1, c2', c3⟩ := hEn
            have HDD : Hid ((reE f t (E i)).data = ⟨(rp f.data.toList t.data.toList (E i).data.data.toList).toArray⟩) := rfl
            obtain ⟨P, hP⟩ : ∃ P, (E i).path = P := ⟨_, rfl⟩
            obtain ⟨kd, hk⟩ : ∃ k, (E i).kind = k := ⟨_, rfl⟩
            obtain ⟨d, hd'⟩ : ∃ d, (E i).data = d := ⟨_, rfl⟩
            obtain ⟨x, hxe⟩ : ∃ x, (E i).exec = x := ⟨_, rfl⟩
            rw [hd'] at HDD c2' hsm
            rw [hP] at c0
            rw [hk] at c1
            rw [hxe] at c3
            obtain ⟨D, hD⟩ : ∃ D : ByteArray, (⟨(rp f.data.toList t.data.toList d.data.toList).toArray⟩ : ByteArray) = D := ⟨_, rfl⟩
            rw [hD] at HDD
            have HST : Hid (∀ W, Below wr.heap.size wr W → (W.setCell ⟨g, i * 4 + 2, none⟩ (.string D)).rowIs g 49 (cp * 4) (fun j => if j < n * 4 then cellE (mixE f t E (i + 1)) j else fu j) ∧ Below w.heap.size w (W.setCell ⟨g, i * 4 + 2, none⟩ (.string D)) ∧ W.cell? ⟨g, i * 4 + 2, none⟩ = some (.string d) ∧ W.frozen? ⟨g, i * 4 + 2, none⟩ = false) := fun W hW => by
              have h1 := HRW.out.of_block (hW.block _ HRW.out.lt)
              have h2 := row_set h1 hil
              rw [HDD.out] at h2
              exact ⟨h2, (HBE.out.trans (hW.mono HBE.out.size)).setCell (p := ⟨g, i * 4 + 2, none⟩) hgw _, (hW.cell (p := ⟨g, i * 4 + 2, none⟩) HRW.out.lt).trans c2', h1.frozen _⟩
            have HSW : Hid (∀ W, ML W → Calls Tryd.prog 55 #[.string d, .string f, .string t] W fun e w' => e = .returned (.string D) ∧ Below W.heap.size W w') := fun W hW => by rw [← hD]; exact replaceAll_any d f t hsm.2 hf1 ht W hW
            have HMW : Hid (∀ ob, ML (wr.alloc ob)) := fun ob => HML.out _ (HBE.out.alloc HBE.out.size _)
            have HBA : Hid (∀ ob, Below wr.heap.size wr (wr.alloc ob)) := fun ob => (Below.refl _ _).alloc (Nat.le_refl _) _
            clear hP hk hd' hxe hD hrow hbel hsm
            go_wp2_with (go_at_call 55; refine (HSW.out _ (HMW.out _)).mono ?_; rintro e w5 ⟨rfl, hl5⟩; obtain ⟨r1, r2, r3, r4⟩ := HST.out _ ((HBA.out _).trans (hl5.mono (HBA.out _).size)))
            have HX1 : Hid ((w5.setCell ⟨g, i * 4 + 2, none⟩ (.string D)).rowIs g 49 (cp * 4) (fun j => if j < n * 4 then cellE (mixE f t E (i + 1)) j else fu j)) := r1
            have HX2 : Hid (Below w.heap.size w (w5.setCell ⟨g, i * 4 + 2, none⟩ (.string D))) := r2
            go_roundw
            case rel => exact ⟨i + 1, by omega, by go_num, HX1.out, HX2.out⟩
            case measure => simp [intOf]; omega
          · have hil' : ¬ (i : Int) < (n : Int) := by omega
            obtain rfl : i = n := by omega
            clear hrow hbel
            go_wp2
            go_ret
            exact ⟨⟨_, rfl, by rw [HN.out]; exact ⟨g, cp, _, rfl, hgw, hnc, hcm, HRW.out, mix_all (row_enr HRW.out (by omega))⟩⟩, HBE.out⟩

end Go.Proofs.YthpgjamnekcjfaaDoor.tt
