import Derived.Test.YtjjndaiojilhiaaDoorNBG
namespace Go.Proofs.YtjjndaiojilhiaaDoor.tt
open Go.ChangeShapes Go.WideShapes Go.ChangeAt Go.RowKit Go.Deep
set_option linter.unusedVariables false
set_option linter.unusedSimpArgs false

/-! ### impl.CutEntry -/

theorem own_cell {w : World} {base g n cap : Nat} {l : List Int} (h : w.ownsRow base 3 1 (.slice (some ⟨g, 0, none⟩) n cap) n (nb.iVs l)) {k : Nat} {x : Int} (hx : l[k]? = some x) : w.cell? ⟨g, k, none⟩ = some (.int .i64 x) := by
  rcases h.2 with ⟨h0, _⟩ | ⟨g', cap', cur, hv, hg, hb, _, _, _, ht⟩
  · cases h0
  cases hv
  have hk : k < n := by
    have h1 := (List.getElem?_eq_some_iff.1 hx).1
    have h2 := h.1
    unfold nb.iVs at h2
    rw [List.length_map] at h2
    omega
  have h3 : (cur.toList.take (n * 1))[k]? = (nb.iVs l)[k]? := by rw [ht]
  rw [List.getElem?_take_of_lt (by omega), Array.getElem?_toList] at h3
  simp [World.cell?, hb, h3, nb.iVs, hx]

set_option maxHeartbeats 8000000 in
set_option maxRecDepth 100000 in
theorem icut_any (E : Nat → En) (b o n cap : Nat) (q : ByteArray) (hq : q.size ≤ 1048576) (w : World) (hR : EnR w b o n E) (hS : SmE n E) (hn : n ≤ 1048576) (hm : ML w) (hC : AtC E) :
    Calls Tryd.prog 8 #[.slice (some ⟨b, o, none⟩) n cap, .string q] w fun r w' => (∃ v, r = .returned (.tuple #[v, .bool (cuB E n q.data.toList)]) ∧ RowE w.heap.size w' v (cuN E n q.data.toList) (cuF E n q.data.toList)) ∧ Below w.heap.size w w' := by
  have HB : Hid (Calls Tryd.prog 20 #[.slice (some ⟨b, o, none⟩) n cap, .string q] w fun e w' => ((treeB E n = false ∧ e = .returned (.tuple #[.pointer none, .bool false])) ∨ treeB E n = true ∧ ∃ rb B M, BrA w w' E n rb (rb + 1) B M ∧ e = .returned (.tuple #[ptr (chd E B n q.data.toList), .bool true])) ∧ Below w.heap.size w w') := branchAt_any E b o n cap q hq w hR hS hn hm hC
  have HR : Hid (∀ W, Below w.heap.size w W → EnR W b o n E) := fun W hW => hR.below hW
  have HCL : Hid (∀ W, Below w.heap.size w W → Calls Tryd.prog 21 #[.slice (some ⟨b, o, none⟩) n cap] W fun e w' => (∃ v, e = .returned v ∧ w'.ownsRow W.heap.size 38 4 v n (enC E n) ∧ v ≠ .slice none 0 0) ∧ Below W.heap.size W w') := fun W hW => cloned_any E b o n cap W (hR.below hW) hS hn
  have HSL : Hid (∀ g c W, EnR W g 0 (stL E q.data.toList n).length (selE E (stL E q.data.toList n)) → Calls Tryd.prog 21 #[.slice (some ⟨g, 0, none⟩) (stL E q.data.toList n).length c] W fun e w' => (∃ v, e = .returned v ∧ w'.ownsRow W.heap.size 38 4 v (stL E q.data.toList n).length (enC (selE E (stL E q.data.toList n)) (stL E q.data.toList n).length) ∧ v ≠ .slice none 0 0) ∧ Below W.heap.size W w') := fun g c W hW => cloned_any _ g 0 _ c W hW (sel_sm hS _) (by have := stL_le E q.data.toList n; omega)
  clear hR hS hm hC
  go_enter Tryd.func8, Tryd.ntmps8
  go_wp2_with (go_at_call 20; refine HB.out.mono ?_; rintro e w1 ⟨h, hb⟩; rcases h with ⟨ht, rfl⟩ | ⟨ht, rb, B, M, hX, rfl⟩; rotate_left; rcases chd_id (B := B) (p := q.data.toList) hX.tr.asc with ⟨hc, hf⟩ | ⟨j, hj, hc, hf⟩; all_goals refine Hid.out ?_)
  · refine Lib.hid ?_
    have HE : Hid (cuB E n q.data.toList = false ∧ cuN E n q.data.toList = n ∧ cuF E n q.data.toList = E) := ⟨by unfold cuB; rw [ht, decide_eq_false (by omega)]; rfl, by unfold cuN; rw [if_pos ht, if_neg (by omega)], by unfold cuF; rw [if_neg (by omega)]⟩
    clear hc hf hX ht
    unfold ptr
    go_wp2_with (go_at_call 21; refine (HCL.out _ hb).mono ?_; rintro e w9 ⟨⟨v9, rfl, hown9, hv9⟩, hl9⟩; have HR9 : Hid (RowE w1.heap.size w9 v9 n E) := own_rowE hown9 hv9; clear hown9 hv9)
    go_ret2
    rw [HE.out.1, HE.out.2.1, HE.out.2.2]
    exact ⟨⟨_, rfl, rowE_mono HR9.out hb.size⟩, hb.trans (hl9.mono hb.size)⟩
  · refine Lib.hid ?_
    have h0 : 0 ≤ fnd E n q.data.toList := by omega
    obtain ⟨j', hj', hjp, hfj⟩ := fnd_at h0
    obtain rfl : j' = j := by omega
    have HE : Hid (cuB E n q.data.toList = true ∧ cuN E n q.data.toList = (stL E q.data.toList n).length ∧ cuF E n q.data.toList = selE E (stL E q.data.toList n)) := ⟨by unfold cuB; rw [ht, decide_eq_true h0]; rfl, by unfold cuN; rw [if_pos ht, if_pos h0], by unfold cuF; rw [if_pos h0]⟩
    have HX : Hid (BrA w w1 E n rb (rb + 1) B M) := hX
    have HSB : Hid (∀ v, nb.SeqO Tryd.prog 36 #[.pointer (some ⟨w1.heap.size, 0, none⟩)] w1.heap.size (fun xs => xs.Perm (nb.ints (subL E n j'))) (subL E n j').length ((w1.alloc (.cells #[.pointer (some ⟨B j', 0, none⟩)] 40)).alloc (.cells #[v] 43))) := fun v =>
      nb.num_seq hX.tr hX.br (n - j') j' hj (Nat.le_refl _) w1.heap.size _ (((Below.refl _ w1).alloc (Nat.le_refl _) _).alloc (by simp) _) ((Below.heap_alloc _ _ _ (by simp)).trans (World.alloc_heap_new w1 _))
    have HSO : Hid (Calls Tryd.prog 22 #[.func (.func 36) #[] #[.pointer (some ⟨w1.heap.size, 0, none⟩)]] (w1.alloc (.cells #[.pointer (some ⟨B j', 0, none⟩)] 40)) fun e w' => ∃ v, e = .returned v ∧ w'.ownsRow (w1.heap.size + 1) 3 1 v (subL E n j').length (nb.iVs (nb.ints (subL E n j'))) ∧ Below (w1.heap.size + 1) (w1.alloc (.cells #[.pointer (some ⟨B j', 0, none⟩)] 40)) w') := by
      have := nb.sorted_any (sub_asc j') (List.length_pos_of_mem (mem_sub.2 ⟨hj, .inl rfl⟩)) (enters_of Tryd.func36 (by kernel_rfl) rfl) (w1.alloc (.cells #[.pointer (some ⟨B j', 0, none⟩)] 40)) (n0 := w1.heap.size) (by simp) (by have := sub_le E n j'; omega) HSB.out
      rw [World.size_alloc] at this
      exact this
    have HTR : Hid (Tr E n) := hX.tr
    clear hc hf hX ht h0
    unfold ptr
    go_wp2_with (first
      | (go_at_call 23; refine (nb.inum_any _ _).mono ?_; rintro e w2 ⟨rfl, rfl⟩)
      | (go_at_call 22; refine HSO.out.mono ?_; rintro e w3 ⟨v3, rfl, hrow3, hl3⟩; refine Hid.out ?_))
    refine Lib.hid ?_
    obtain ⟨m, hmm⟩ : ∃ m, (subL E n j').length = m := ⟨_, rfl⟩
    have hpos : 0 < m := by rw [← hmm]; exact List.length_pos_of_mem (mem_sub.2 ⟨hj, .inl rfl⟩)
    have HMM : Hid ((subL E n j').length = m) := hmm
    rw [hmm] at hrow3
    obtain ⟨g, cp, rfl, hcp⟩ : ∃ g cp, v3 = .slice (some ⟨g, 0, none⟩) m cp ∧ m ≤ cp := by
      rcases hrow3.2 with ⟨_, h0⟩ | ⟨g', cap', cur, hv, _, _, hle, _⟩
      · omega
      · exact ⟨g', cap', hv, hle⟩
    have hb3 : Below w1.heap.size w1 w3 := ((Below.refl _ w1).alloc (Nat.le_refl _) _).trans (hl3.mono (Nat.le_succ _))
    have HBW3 : Hid (Below w.heap.size w w3) := hb.trans (hb3.mono hb.size)
    have hg3 : g < w3.heap.size := (hrow3.lt g rfl).2
    have HG3 : Hid (∀ W, Below w3.heap.size w3 W → ∀ (k x : Nat), (subL E n j')[k]? = some x → W.cell? ⟨g, k, none⟩ = some (.int .i64 (x : Int))) := fun W hW k x hx => by
      have h1 := own_cell hrow3 (k := k) (x := (x : Int)) (by unfold nb.ints; rw [List.getElem?_map, hx]; rfl)
      exact (hW.cell (p := ⟨g, k, none⟩) hg3).trans h1
    have HUP : Hid (∀ W, Below w3.heap.size w3 W → Below w.heap.size w W) := fun W hW => HBW3.out.trans (hW.mono HBW3.out.size)
    have HO0 : Hid ((w3.alloc (.cells #[] 38)).ownsRow w3.heap.size 38 4 (.slice (some ⟨w3.heap.size, 0, none⟩) 0 0) 0 (enC (selE E (stL E q.data.toList 0)) 0)) := made_own w3 0 (by omega) #[] rfl
    clear hl3 hrow3 hb3 hmm hj'
    go_wp2
    go_loopw [8, 9, 31] (fun gv v x wr => ∃ i l c oo : Nat, i ≤ n ∧ x = .int .i64 (i : Int) ∧ gv = .slice (some ⟨g, oo, none⟩) l c ∧ (0 < l → oo = (goL E j' i).length) ∧ l + (goL E j' i).length = m ∧ l ≤ c ∧ wr.ownsRow w3.heap.size 38 4 v (stL E q.data.toList i).length (enC (selE E (stL E q.data.toList i)) (stL E q.data.toList i).length) ∧ v ≠ .slice none 0 0 ∧ Below w3.heap.size w3 wr) (fun _ _ x _ => n - (intOf x).toNat)
    case atStart => exact ⟨0, m, cp, 0, Nat.zero_le _, rfl, rfl, fun _ => rfl, rfl, hcp, HO0.out, (by intro e; cases e), (Below.refl _ _).alloc (Nat.le_refl _) _⟩
    case round =>
      obtain ⟨i, l, c, oo, hi, rfl, rfl, hoo, hlm, hlc, hown, hvn, hbel⟩ := hrel
      obtain ⟨L, hL⟩ : ∃ L, stL E q.data.toList i = L := ⟨_, rfl⟩
      have HL : Hid (stL E q.data.toList i = L) := hL
      have hLl : L.length ≤ 1048576 := by have := stL_le E q.data.toList i; rw [hL] at this; omega
      rw [hL] at hown
      obtain ⟨at7, cp7, hv7⟩ := own_shape hown
      subst hv7
      obtain ⟨go, hgo⟩ : ∃ go, (goL E j' i).length = go := ⟨_, rfl⟩
      have HGO : Hid ((goL E j' i).length = go) := hgo
      rw [hgo] at hlm hoo
      have HOW : Hid (wr.ownsRow w3.heap.size 38 4 (.slice at7 L.length cp7) L.length (enC (selE E L) L.length)) := hown
      have HNN : Hid (Value.slice at7 L.length cp7 ≠ .slice none 0 0) := hvn
      have HBE : Hid (Below w3.heap.size w3 wr) := hbel
      clear hown hvn hbel hL hgo
      by_cases hin : i < n
      · have hin' : (i : Int) < (n : Int) := by omega
        have hi0 : (0 : Int) ≤ (i : Int) := by omega
        obtain ⟨c0, c1, c2, c3⟩ := HR.out _ (HUP.out _ HBE.out) i hin
        have HSN : Hid (enC (selE E (L ++ [i])) (L.length + 1) = enC (selE E L) L.length ++ [.string (E i).path, .int .i64 (E i).kind, .string (E i).data, .bool (E i).exec]) := sel_snoc E L i
        have HSTH : Hid (stL E q.data.toList (i + 1) = if stayB E q.data.toList i = true then L ++ [i] else L) := by rw [← HL.out]; exact stL_succ E q.data.toList i
        obtain ⟨e1, he1⟩ : ∃ e1, E i = e1 := ⟨_, rfl⟩
        rw [he1] at c0 c1 c2 c3 HSN
        clear he1
        obtain ⟨Pp, kM, dM, xM⟩ := e1
        simp only at c0 c1 c2 c3 HSN
        obtain ⟨ob, hob⟩ : ∃ ob, ob = Obj.cells #[.string Pp, .int .i64 kM, .string dM, .bool xM] 38 (0, 0) := ⟨_, rfl⟩
        have HBQ : Hid (Below w3.heap.size w3 (wr.alloc (.cells #[.string Pp, .int .i64 kM, .string dM, .bool xM] 38))) := HBE.out.alloc HBE.out.size _
        by_cases hin2 : InS E j' i
        · have hl0 : (0 : Int) < (l : Int) := by have := go_lt hin hin2; rw [HMM.out, HGO.out] at this; omega
          have hl1 : (1 : Int) ≤ (l : Int) := by omega
          have hgc := HG3.out _ HBQ.out go i (by have := go_at hin hin2; rwa [HGO.out] at this)
          have HLN : Hid (stL E q.data.toList (i + 1) = L) := by show _ = _; rw [HSTH.out, if_neg (fun h => (stay_iff HTR.out.asc hin hj hjp).1 h hin2)]
          have HGN : Hid ((goL E j' (i + 1)).length = go + 1) := by show _ = _; rw [(go_succ E j' i).1 hin2, List.length_append, HGO.out]; rfl
          obtain rfl : oo = go := hoo (by omega)
          clear hin2 hoo
          go_wp2
          go_roundw
          case rel =>
            refine ⟨i + 1, l - 1, c - 1, if c = 1 then oo else oo + 1, by omega, by go_num, by split <;> rfl, fun h => ?_, by rw [HGN.out]; omega, by omega, by rw [HLN.out]; exact own_below HOW.out ((Below.refl _ _).alloc (Nat.le_refl _) _), HNN.out, HBQ.out⟩
            rw [HGN.out, if_neg (by omega)]
          case measure => simp [intOf] <;> omega
        · have HLN : Hid (stL E q.data.toList (i + 1) = L ++ [i]) := by show _ = _; rw [HSTH.out, if_pos ((stay_iff HTR.out.asc hin hj hjp).2 hin2)]
          have HGN : Hid ((goL E j' (i + 1)).length = go) := by show _ = _; rw [(go_succ E j' i).2 hin2, HGO.out]
          have HOA : Hid (∀ ob ob2, ((wr.alloc ob).alloc ob2).ownsRow w3.heap.size 38 4 (.slice at7 L.length cp7) L.length (enC (selE E L) L.length)) := fun ob ob2 => own_below HOW.out (((Below.refl _ _).alloc (Nat.le_refl _) _).alloc (by simp) _)
          have HBA : Hid (∀ ob ob2, Below w3.heap.size w3 ((wr.alloc ob).alloc ob2)) := fun ob ob2 => (HBE.out.alloc HBE.out.size _).alloc (by have := HBE.out.size; simp; omega) _
          have HSA : Hid (∀ ob ob2, w3.heap.size ≤ ((wr.alloc ob).alloc ob2).heap.size) := fun ob ob2 => (HBA.out ob ob2).size
          have HCW : Hid (L.length ≤ 2000000) := by show _ ≤ _; omega
          have HOO : Hid (0 < l → oo = go) := hoo
          clear hoo
          by_cases hl0 : (0 : Int) < (l : Int)
          · have hgl : go < (subL E n j').length := by rw [HMM.out]; omega
            have hgc := HG3.out _ HBQ.out go _ (List.getElem?_eq_getElem hgl)
            have hne : (subL E n j')[go] ≠ i := go_not hin hin2 (by rw [HGO.out]; exact List.getElem?_eq_getElem hgl)
            obtain ⟨y, hy⟩ : ∃ y, (subL E n j')[go] = y := ⟨_, rfl⟩
            rw [hy] at hgc hne
            have hne2 : ((i : Int) == (y : Int)) = false := by rw [beq_eq_false_iff_ne]; omega
            obtain rfl : oo = go := HOO.out (by omega)
            clear hy hin2 hne
            go_wp2_with (first
              | (at_builtin; refine app_ent _ rfl _ _ rfl w3.heap.size _ _ _ rfl (HOA.out _ _) HNN.out ⟨wr.heap.size + 1, 0, none⟩ 1 (.string Pp) (.int .i64 kM) (.string dM) (.bool xM) rfl (four_at _ _ (by simp) _ _ _ _ _) (four_one Pp kM dM xM) HCW.out (HSA.out _ _) ?_; intro v6 w6 hownw6 hvw6 hgw6; refine Hid.out ?_)
              | go_in)
            refine Lib.hid ?_
            have HB6 : Hid (Below w3.heap.size w3 w6) := (HBA.out _ _).grown hgw6 (HBA.out _ _).size (fun k hk => ((HOA.out (.cells #[.string Pp, .int .i64 kM, .string dM, .bool xM] 38) (.cells #[.string Pp, .int .i64 kM, .string dM, .bool xM] 38)).lt k hk).1)
            have HO6 : Hid (w6.ownsRow w3.heap.size 38 4 v6 (L.length + 1) (enC (selE E (L ++ [i])) (L.length + 1))) := by rw [HSN.out]; exact hownw6
            have HV6 : Hid (v6 ≠ .slice none 0 0) := hvw6
            clear hownw6 hvw6 hgw6 c0 c1 c2 c3
            go_wp2
            go_roundw
            case rel => exact ⟨i + 1, l, c, oo, by omega, by go_num, rfl, fun h => by first | exact HGN.out.symm | (rw [HGN.out]; exact HOO.out h), by rw [HGN.out]; exact hlm, hlc, by rw [HLN.out, List.length_append]; exact HO6.out, HV6.out, HB6.out⟩
            case measure => simp [intOf] <;> omega
          · clear hin2
            go_wp2_with (first
              | (at_builtin; refine app_ent _ rfl _ _ rfl w3.heap.size _ _ _ rfl (HOA.out _ _) HNN.out ⟨wr.heap.size + 1, 0, none⟩ 1 (.string Pp) (.int .i64 kM) (.string dM) (.bool xM) rfl (four_at _ _ (by simp) _ _ _ _ _) (four_one Pp kM dM xM) HCW.out (HSA.out _ _) ?_; intro v6 w6 hownw6 hvw6 hgw6; refine Hid.out ?_)
              | go_in)
            refine Lib.hid ?_
            have HB6 : Hid (Below w3.heap.size w3 w6) := (HBA.out _ _).grown hgw6 (HBA.out _ _).size (fun k hk => ((HOA.out (.cells #[.string Pp, .int .i64 kM, .string dM, .bool xM] 38) (.cells #[.string Pp, .int .i64 kM, .string dM, .bool xM] 38)).lt k hk).1)
            have HO6 : Hid (w6.ownsRow w3.heap.size 38 4 v6 (L.length + 1) (enC (selE E (L ++ [i])) (L.length + 1))) := by rw [HSN.out]; exact hownw6
            have HV6 : Hid (v6 ≠ .slice none 0 0) := hvw6
            clear hownw6 hvw6 hgw6 c0 c1 c2 c3
            go_wp2
            go_roundw
            case rel => exact ⟨i + 1, l, c, oo, by omega, by go_num, rfl, fun h => by first | exact HGN.out.symm | (rw [HGN.out]; exact HOO.out h), by rw [HGN.out]; exact hlm, hlc, by rw [HLN.out, List.length_append]; exact HO6.out, HV6.out, HB6.out⟩
            case measure => simp [intOf] <;> omega
      · have hin' : ¬ (i : Int) < (n : Int) := by omega
        obtain rfl : i = n := by omega
        have HR7 : Hid (RowE w3.heap.size wr (.slice at7 L.length cp7) L.length (selE E L)) := own_rowE HOW.out HNN.out
        rw [HL.out] at HSL
        obtain ⟨g7, cap7, f7, hv7, hg7, _, _, _, he7⟩ := HR7.out
        cases hv7
        have HSL2 : Hid (Calls Tryd.prog 21 #[.slice (some ⟨g7, 0, none⟩) L.length cp7] wr fun e w' => (∃ v, e = .returned v ∧ w'.ownsRow wr.heap.size 38 4 v L.length (enC (selE E L) L.length) ∧ v ≠ .slice none 0 0) ∧ Below wr.heap.size wr w') := HSL.out _ _ _ he7
        clear he7
        go_wp2_with (go_at_call 21; refine HSL2.out.mono ?_; rintro e w9 ⟨⟨v9, rfl, hown9, hv9⟩, hl9⟩; have HR9 : Hid (RowE wr.heap.size w9 v9 L.length (selE E L)) := own_rowE hown9 hv9; clear hown9 hv9)
        go_ret2
        have hbw := HUP.out _ HBE.out
        rw [HE.out.1, HE.out.2.1, HE.out.2.2, HL.out]
        exact ⟨⟨_, rfl, rowE_mono HR9.out hbw.size⟩, hbw.trans (hl9.mono hbw.size)⟩
  · refine Lib.hid ?_
    have HE : Hid (cuB E n q.data.toList = false ∧ cuN E n q.data.toList = 0) := ⟨by unfold cuB; rw [ht]; rfl, by unfold cuN; rw [if_neg (by rw [ht]; simp)]⟩
    clear ht
    go_wp2
    go_ret2
    rw [HE.out.1, HE.out.2]
    exact ⟨⟨_, rfl, rowE_mono (row0 _ w1) hb.size⟩, hb.alloc hb.size _⟩

end Go.Proofs.YtjjndaiojilhiaaDoor.tt
