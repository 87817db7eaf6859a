import Derived.Test.YtaoimkjcaienbaaGreatDoorG21
import Derived.Test.YtaoimkjcaienbaaGreatDoorG19
import Derived.Test.YtaoimkjcaienbaaGreatDoorG20
import Derived.Test.YtaoimkjcaienbaaGreatDoorG03
import Derived.Test.YtaoimkjcaienbaaGreatDoorG15
import Derived.Test.YtaoimkjcaienbaaGreatDoorG02
import Derived.Deep.CutRange
import Derived.Deep.Cut
import Derived.Deep.CutBlock
namespace Go.Proofs.YtaoimkjcaienbaaGreatDoor.tt
open Go.ChangeShapes Go.WideShapes Go.ChangeAt Go.RowKit Go.Deep
set_option linter.unusedVariables false
set_option linter.unusedSimpArgs false

/-! ### impl.CutEntry -/

theorem own_cell {w : World} {base g n cap : Nat} {l : List Int} (h : w.ownsRow base 3 1 (.slice (some ⟨g, 0, none⟩) n cap) n (nb.iVs l)) {k : Nat} {x : Int} (hx : l[k]? = some x) : w.cell? ⟨g, k, none⟩ = some (.int .i64 x) := by
  rcases h.2 with ⟨h0, _⟩ | ⟨g', cap', cur, hv, hg, hb, _, _, _, ht⟩
  · cases h0
  cases hv
  have hk : k < n := by
    have h1 := (List.getElem?_eq_some_iff.1 hx).1
    have h2 := h.1
    unfold nb.iVs at h2
    rw [List.length_map] at h2
    omega
  have h3 : (cur.toList.take (n * 1))[k]? = (nb.iVs l)[k]? := by rw [ht]
  rw [List.getElem?_take_of_lt (by omega), Array.getElem?_toList] at h3
  simp [World.cell?, hb, h3, nb.iVs, hx]

set_option maxHeartbeats 8000000 in
set_option maxRecDepth 100000 in
theorem icut_any (E : Nat → En) (b o n cap : Nat) (q : ByteArray) (hq : q.size ≤ 1048576) (w : World) (hR : EnR w b o n E) (hS : SmE n E) (hn : n ≤ 1048576) (hm : ML w) (hC : AtC E) :
    Calls Tryz.prog 19 #[.slice (some ⟨b, o, none⟩) n cap, .string q] w fun r w' => (∃ v, r = .returned (.tuple #[v, .bool (cuB E n q.data.toList)]) ∧ RowE w.heap.size w' v (cuN E n q.data.toList) (cuF E n q.data.toList)) ∧ Below w.heap.size w w' := by
  have HB : Hid (Calls Tryz.prog 49 #[.slice (some ⟨b, o, none⟩) n cap, .string q] w fun e w' => ((treeB E n = false ∧ e = .returned (.tuple #[.pointer none, .bool false])) ∨ treeB E n = true ∧ ∃ rb B M, BrA w w' E n rb (rb + 1) B M ∧ e = .returned (.tuple #[ptr (chd E B n q.data.toList), .bool true])) ∧ Below w.heap.size w w') := branchAt_any E b o n cap q hq w hR hS hn hm hC
  have HR : Hid (∀ W, Below w.heap.size w W → EnR W b o n E) := fun W hW => hR.below hW
  have HCL : Hid (∀ W, Below w.heap.size w W → Calls Tryz.prog 51 #[.slice (some ⟨b, o, none⟩) n cap] W fun e w' => (∃ v, e = .returned v ∧ w'.ownsRow W.heap.size 29 4 v n (enC E n) ∧ v ≠ .slice none 0 0) ∧ Below W.heap.size W w') := fun W hW => cloned_any E b o n cap W (hR.below hW) hS hn
  have HSL : Hid (∀ g c W, EnR W g 0 (stL E q.data.toList n).length (selE E (stL E q.data.toList n)) → Calls Tryz.prog 51 #[.slice (some ⟨g, 0, none⟩) (stL E q.data.toList n).length c] W fun e w' => (∃ v, e = .returned v ∧ w'.ownsRow W.heap.size 29 4 v (stL E q.data.toList n).length (enC (selE E (stL E q.data.toList n)) (stL E q.data.toList n).length) ∧ v ≠ .slice none 0 0) ∧ Below W.heap.size W w') := fun g c W hW => cloned_any _ g 0 _ c W hW (sel_sm hS _) (by have := stL_le E q.data.toList n; omega)
  clear hR hS hm hC
  go_enter Tryz.func19, Tryz.ntmps19
  go_wp2_with (go_at_call 49; refine HB.out.mono ?_; rintro e w1 ⟨h, hb⟩; rcases h with ⟨ht, rfl⟩ | ⟨ht, rb, B, M, hX, rfl⟩; rotate_left; rcases chd_id (B := B) (p := q.data.toList) hX.tr.asc with ⟨hc, hf⟩ | ⟨j, hj, hc, hf⟩; all_goals refine Hid.out ?_)
  · refine Lib.hid ?_
    have HE : Hid (cuB E n q.data.toList = false ∧ cuN E n q.data.toList = n ∧ cuF E n q.data.toList = E) := ⟨by unfold cuB; rw [ht, decide_eq_false (by omega)]; rfl, by unfold cuN; rw [if_pos ht, if_neg (by omega)], by unfold cuF; rw [if_neg (by omega)]⟩
    clear hc hf hX ht
    unfold ptr
    go_wp2_with (go_at_call 51; refine (HCL.out _ hb).mono ?_; rintro e w9 ⟨⟨v9, rfl, hown9, hv9⟩, hl9⟩; have HR9 : Hid (RowE w1.heap.size w9 v9 n E) := own_rowE hown9 hv9; clear hown9 hv9)
    go_ret2
    rw [HE.out.1, HE.out.2.1, HE.out.2.2]
    exact ⟨⟨_, rfl, rowE_mono HR9.out hb.size⟩, hb.trans (hl9.mono hb.size)⟩
  · refine Lib.hid ?_
    have h0 : 0 ≤ fnd E n q.data.toList := by omega
    obtain ⟨j', hj', hjp, hfj⟩ := fnd_at h0
    obtain rfl : j' = j := by omega
    have HE : Hid (cuB E n q.data.toList = true ∧ cuN E n q.data.toList = (stL E q.data.toList n).length ∧ cuF E n q.data.toList = selE E (stL E q.data.toList n)) := ⟨by unfold cuB; rw [ht, decide_eq_true h0]; rfl, by unfold cuN; rw [if_pos ht, if_pos h0], by unfold cuF; rw [if_pos h0]⟩
    have HX : Hid (BrA w w1 E n rb (rb + 1) B M) := hX
    have HSB : Hid (∀ v, nb.SeqO Tryz.prog 89 #[.pointer (some ⟨w1.heap.size, 0, none⟩)] w1.heap.size (fun xs => xs.Perm (nb.ints (subL E n j'))) (subL E n j').length ((w1.alloc (.cells #[.pointer (some ⟨B j', 0, none⟩)] 77)).alloc (.cells #[v] 86))) := fun v =>
      nb.num_seq hX.tr hX.br (n - j') j' hj (Nat.le_refl _) w1.heap.size _ (((Below.refl _ w1).alloc (Nat.le_refl _) _).alloc (by simp) _) ((Below.heap_alloc _ _ _ (by simp)).trans (World.alloc_heap_new w1 _))
    have HSO : Hid (Calls Tryz.prog 54 #[.func (.func 89) #[] #[.pointer (some ⟨w1.heap.size, 0, none⟩)]] (w1.alloc (.cells #[.pointer (some ⟨B j', 0, none⟩)] 77)) fun e w' => ∃ v, e = .returned v ∧ w'.ownsRow (w1.heap.size + 1) 3 1 v (subL E n j').length (nb.iVs (nb.ints (subL E n j'))) ∧ Below (w1.heap.size + 1) (w1.alloc (.cells #[.pointer (some ⟨B j', 0, none⟩)] 77)) w') := by
      have := nb.sorted_any (sub_asc j') (List.length_pos_of_mem (mem_sub.2 ⟨hj, .inl rfl⟩)) (enters_of Tryz.func89 (by kernel_rfl) rfl) (w1.alloc (.cells #[.pointer (some ⟨B j', 0, none⟩)] 77)) (n0 := w1.heap.size) (by simp) (by have := sub_le E n j'; omega) HSB.out
      rw [World.size_alloc] at this
      exact this
    have HTR : Hid (Tr E n) := hX.tr
    clear hc hf hX ht h0
    unfold ptr
    go_wp2_with (first
      | (go_at_call 55; refine (nb.inum_any _ _).mono ?_; rintro e w2 ⟨rfl, rfl⟩)
      | (go_at_call 54; refine HSO.out.mono ?_; rintro e w3 ⟨v3, rfl, hrow3, hl3⟩; refine Hid.out ?_))
    refine Lib.hid ?_
    obtain ⟨m, hmm⟩ : ∃ m, (subL E n j').length = m := ⟨_, rfl⟩
    have hpos : 0 < m := by rw [← hmm]; exact List.length_pos_of_mem (mem_sub.2 ⟨hj, .inl rfl⟩)
    have HMM : Hid ((subL E n j').length = m) := hmm
    rw [hmm] at hrow3
    obtain ⟨g, cp, rfl, hcp⟩ : ∃ g cp, v3 = .slice (some ⟨g, 0, none⟩) m cp ∧ m ≤ cp := by
      rcases hrow3.2 with ⟨_, h0⟩ | ⟨g', cap', cur, hv, _, _, hle, _⟩
      · omega
      · exact ⟨g', cap', hv, hle⟩
    have hb3 : Below w1.heap.size w1 w3 := ((Below.refl _ w1).alloc (Nat.le_refl _) _).trans (hl3.mono (Nat.le_succ _))
    have HBW3 : Hid (Below w.heap.size w w3) := hb.trans (hb3.mono hb.size)
    have hg3 : g < w3.heap.size := (hrow3.lt g rfl).2
    have HG3 : Hid (∀ W, Below w3.heap.size w3 W → ∀ (k x : Nat), (subL E n j')[k]? = some x → W.cell? ⟨g, k, none⟩ = some (.int .i64 (x : Int))) := fun W hW k x hx => by
      have h1 := own_cell hrow3 (k := k) (x := (x : Int)) (by unfold nb.ints; rw [List.getElem?_map, hx]; rfl)
      exact (hW.cell (p := ⟨g, k, none⟩) hg3).trans h1
    have HUP : Hid (∀ W, Below w3.heap.size w3 W → Below w.heap.size w W) := fun W hW => HBW3.out.trans (hW.mono HBW3.out.size)
    have HO0 : Hid ((w3.alloc (.cells #[] 29)).ownsRow w3.heap.size 29 4 (.slice (some ⟨w3.heap.size, 0, none⟩) 0 0) 0 (enC (selE E (stL E q.data.toList 0)) 0)) := made_own w3 0 (by omega) #[] rfl
    clear hl3 hrow3 hb3 hmm hj'
    go_wp2
    go_loopw [8, 9, 31] (fun gv v x wr => ∃ i l c oo : Nat, i ≤ n ∧ x = .int .i64 (i : Int) ∧ gv = .slice (some ⟨g, oo, none⟩) l c ∧ (0 < l → oo = (goL E j' i).length) ∧ l + (goL E j' i).length = m ∧ l ≤ c ∧ wr.ownsRow w3.heap.size 29 4 v (stL E q.data.toList i).length (enC (selE E (stL E q.data.toList i)) (stL E q.data.toList i).length) ∧ v ≠ .slice none 0 0 ∧ Below w3.heap.size w3 wr) (fun _ _ x _ => n - (intOf x).toNat)
    case atStart => exact ⟨0, m, cp, 0, Nat.zero_le _, rfl, rfl, fun _ => rfl, rfl, hcp, HO0.out, (by intro e; cases e), (Below.refl _ _).alloc (Nat.le_refl _) _⟩
    case round =>
      obtain ⟨i, l, c, oo, hi, rfl, rfl, hoo, hlm, hlc, hown, hvn, hbel⟩ := hrel
      obtain ⟨L, hL⟩ : ∃ L, stL E q.data.toList i = L := ⟨_, rfl⟩
      have HL : Hid (stL E q.data.toList i = L) := hL
      have hLl : L.length ≤ 1048576 := by have := stL_le E q.data.toList i; rw [hL] at this; omega
      rw [hL] at hown
      obtain ⟨at7, cp7, hv7⟩ := own_shape hown
      subst hv7
      obtain ⟨go, hgo⟩ : ∃ go, (goL E j' i).length = go := ⟨_, rfl⟩
      have HGO : Hid ((goL E j' i).length = go) := hgo
      rw [hgo] at hlm hoo
      have HOW : Hid (wr.ownsRow w3.heap.size 29 4 (.slice at7 L.length cp7) L.length (enC (selE E L) L.length)) := hown
      have HNN : Hid (Value.slice at7 L.length cp7 ≠ .slice none 0 0) := hvn
      have HBE : Hid (Below w3.heap.size w3 wr) := hbel
      clear hown hvn hbel hL hgo
      by_cases hin : i < n
      · have hin' : (i : Int) < (n : Int) := by omega
        have hi0 : (0 : Int) ≤ (i : Int) := by omega
        obtain ⟨c0, c1, c2, c3⟩ := HR.out _ (HUP.out _ HBE.out) i hin
        have HSN : Hid (enC (selE E (L ++ [i])) (L.length + 1) = enC (selE E L) L.length ++ [.string (E i).path, .int .i64 (E i).kind, .string (E i).data, .bool (E i).exec]) := sel_snoc E L i
        have HSTH : Hid (stL E q.data.toList (i + 1) = if stayB E q.data.toList i = true then L ++ [i] else L) := by rw [← HL.out]; exact stL_succ E q.data.toList i
        obtain ⟨e1, he1⟩ : ∃ e1, E i = e1 := ⟨_, rfl⟩
        rw [he1] at c0 c1 c2 c3 HSN
        clear he1
        obtain ⟨Pp, kM, dM, xM⟩ := e1
        simp only at c0 c1 c2 c3 HSN
        obtain ⟨ob, hob⟩ : ∃ ob, ob = Obj.cells #[.string Pp, .int .i64 kM, .string dM, .bool xM] 29 (0, 0) := ⟨_, rfl⟩
        have HBQ : Hid (Below w3.heap.size w3 (wr.alloc (.cells #[.string Pp, .int .i64 kM, .string dM, .bool xM] 29))) := HBE.out.alloc HBE.out.size _
        by_cases hin2 : InS E j' i
        · have hl0 : (0 : Int) < (l : Int) := by have := go_lt hin hin2; rw [HMM.out, HGO.out] at this; omega
          have hl1 : (1 : Int) ≤ (l : Int) := by omega
          have hgc := HG3.out _ HBQ.out go i (by have := go_at hin hin2; rwa [HGO.out] at this)
          have HLN : Hid (stL E q.data.toList (i + 1) = L) := by show _ = _; rw [HSTH.out, if_neg (fun h => (stay_iff HTR.out.asc hin hj hjp).1 h hin2)]
          have HGN : Hid ((goL E j' (i + 1)).length = go + 1) := by show _ = _; rw [(go_succ E j' i).1 hin2, List.length_append, HGO.out]; rfl
          obtain rfl : oo = go := hoo (by omega)
          clear hin2 hoo
          go_wp2
          go_roundw
          case rel =>
            refine ⟨i + 1, l - 1, c - 1, if c = 1 then oo else oo + 1, by omega, by go_num, by split <;> rfl, fun h => ?_, by rw [HGN.out]; omega, by omega, by rw [HLN.out]; exact own_below HOW.out ((Below.refl _ _).alloc (Nat.le_refl _) _), HNN.out, HBQ.out⟩
            rw [HGN.out, if_neg (by omega)]
          case measure => simp [intOf] <;> omega
        · have HLN : Hid (stL E q.data.toList (i + 1) = L ++ [i]) := by show _ = _; rw [HSTH.out, if_pos ((stay_iff HTR.out.asc hin hj hjp).2 hin2)]
          have HGN : Hid ((goL E j' (i + 1)).length = go) := by show _ = _; rw [(go_succ E j' i).2 hin2, HGO.out]
          have HOA : Hid (∀ ob ob2, ((wr.alloc ob).alloc ob2).ownsRow w3.heap.size 29 4 (.slice at7 L.length cp7) L.length (enC (selE E L) L.length)) := fun ob ob2 => own_below HOW.out (((Below.refl _ _).alloc (Nat.le_refl _) _).alloc (by simp) _)
          have HBA : Hid (∀ ob ob2, Below w3.heap.size w3 ((wr.alloc ob).alloc ob2)) := fun ob ob2 => (HBE.out.alloc HBE.out.size _).alloc (by have := HBE.out.size; simp; omega) _
          have HSA : Hid (∀ ob ob2, w3.heap.size ≤ ((wr.alloc ob).alloc ob2).heap.size) := fun ob ob2 => (HBA.out ob ob2).size
          have HCW : Hid (L.length ≤ 2000000) := by show _ ≤ _; omega
          have HOO : Hid (0 < l → oo = go) := hoo
          clear hoo
          by_cases hl0 : (0 : Int) < (l : Int)
          · have hgl : go < (subL E n j').length := by rw [HMM.out]; omega
            have hgc := HG3.out _ HBQ.out go _ (List.getElem?_eq_getElem hgl)
            have hne : (subL E n j')[go] ≠ i := go_not hin hin2 (by rw [HGO.out]; exact List.getElem?_eq_getElem hgl)
            obtain ⟨y, hy⟩ : ∃ y, (subL E n j')[go] = y := ⟨_, rfl⟩
            rw [hy] at hgc hne
            have hne2 : ((i : Int) == (y : Int)) = false := by rw [beq_eq_false_iff_ne]; omega
            obtain rfl : oo = go := HOO.out (by omega)
            clear hy hin2 hne
            go_wp2_with (first
              | (at_builtin; refine app_ent _ rfl _ _ rfl w3.heap.size _ _ _ rfl (HOA.out _ _) HNN.out ⟨wr.heap.size + 1, 0, none⟩ 1 (.string Pp) (.int .i64 kM) (.string dM) (.bool xM) rfl (four_at _ _ (by simp) _ _ _ _ _) (four_one Pp kM dM xM) HCW.out (HSA.out _ _) ?_; intro v6 w6 hownw6 hvw6 hgw6; refine Hid.out ?_)
              | go_in)
            refine Lib.hid ?_
            have HB6 : Hid (Below w3.heap.size w3 w6) := (HBA.out _ _).grown hgw6 (HBA.out _ _).size (fun k hk => ((HOA.out (.cells #[.string Pp, .int .i64 kM, .string dM, .bool xM] 29) (.cells #[.string Pp, .int .i64 kM, .string dM, .bool xM] 29)).lt k hk).1)
            have HO6 : Hid (w6.ownsRow w3.heap.size 29 4 v6 (L.length + 1) (enC (selE E (L ++ [i])) (L.length + 1))) := by rw [HSN.out]; exact hownw6
            have HV6 : Hid (v6 ≠ .slice none 0 0) := hvw6
            clear hownw6 hvw6 hgw6 c0 c1 c2 c3
            go_wp2
            go_roundw
            case rel => exact ⟨i + 1, l, c, oo, by omega, by go_num, rfl, fun h => by first | exact HGN.out.symm | (rw [HGN.out]; exact HOO.out h), by rw [HGN.out]; exact hlm, hlc, by rw [HLN.out, List.length_append]; exact HO6.out, HV6.out, HB6.out⟩
            case measure => simp [intOf] <;> omega
          · clear hin2
            go_wp2_with (first
              | (at_builtin; refine app_ent _ rfl _ _ rfl w3.heap.size _ _ _ rfl (HOA.out _ _) HNN.out ⟨wr.heap.size + 1, 0, none⟩ 1 (.string Pp) (.int .i64 kM) (.string dM) (.bool xM) rfl (four_at _ _ (by simp) _ _ _ _ _) (four_one Pp kM dM xM) HCW.out (HSA.out _ _) ?_; intro v6 w6 hownw6 hvw6 hgw6; refine Hid.out ?_)
              | go_in)
            refine Lib.hid ?_
            have HB6 : Hid (Below w3.heap.size w3 w6) := (HBA.out _ _).grown hgw6 (HBA.out _ _).size (fun k hk => ((HOA.out (.cells #[.string Pp, .int .i64 kM, .string dM, .bool xM] 29) (.cells #[.string Pp, .int .i64 kM, .string dM, .bool xM] 29)).lt k hk).1)
            have HO6 : Hid (w6.ownsRow w3.heap.size 29 4 v6 (L.length + 1) (enC (selE E (L ++ [i])) (L.length + 1))) := by rw [HSN.out]; exact hownw6
            have HV6 : Hid (v6 ≠ .slice none 0 0) := hvw6
            clear hownw6 hvw6 hgw6 c0 c1 c2 c3
            go_wp2
            go_roundw
            case rel => exact ⟨i + 1, l, c, oo, by omega, by go_num, rfl, fun h => by first | exact HGN.out.symm | (rw [HGN.out]; exact HOO.out h), by rw [HGN.out]; exact hlm, hlc, by rw [HLN.out, List.length_append]; exact HO6.out, HV6.out, HB6.out⟩
            case measure => simp [intOf] <;> omega
      · have hin' : ¬ (i : Int) < (n : Int) := by omega
        obtain rfl : i = n := by omega
        have HR7 : Hid (RowE w3.heap.size wr (.slice at7 L.length cp7) L.length (selE E L)) := own_rowE HOW.out HNN.out
        rw [HL.out] at HSL
        obtain ⟨g7, cap7, f7, hv7, hg7, _, _, _, he7⟩ := HR7.out
        cases hv7
        have HSL2 : Hid (Calls Tryz.prog 51 #[.slice (some ⟨g7, 0, none⟩) L.length cp7] wr fun e w' => (∃ v, e = .returned v ∧ w'.ownsRow wr.heap.size 29 4 v L.length (enC (selE E L) L.length) ∧ v ≠ .slice none 0 0) ∧ Below wr.heap.size wr w') := HSL.out _ _ _ he7
        clear he7
        go_wp2_with (go_at_call 51; refine HSL2.out.mono ?_; rintro e w9 ⟨⟨v9, rfl, hown9, hv9⟩, hl9⟩; have HR9 : Hid (RowE wr.heap.size w9 v9 L.length (selE E L)) := own_rowE hown9 hv9; clear hown9 hv9)
        go_ret2
        have hbw := HUP.out _ HBE.out
        rw [HE.out.1, HE.out.2.1, HE.out.2.2, HL.out]
        exact ⟨⟨_, rfl, rowE_mono HR9.out hbw.size⟩, hbw.trans (hl9.mono hbw.size)⟩
  · refine Lib.hid ?_
    have HE : Hid (cuB E n q.data.toList = false ∧ cuN E n q.data.toList = 0) := ⟨by unfold cuB; rw [ht]; rfl, by unfold cuN; rw [if_neg (by rw [ht]; simp)]⟩
    clear ht
    go_wp2
    go_ret2
    rw [HE.out.1, HE.out.2]
    exact ⟨⟨_, rfl, rowE_mono (row0 _ w1) hb.size⟩, hb.alloc hb.size _⟩

end Go.Proofs.YtaoimkjcaienbaaGreatDoor.tt

namespace Go.Proofs.YtaoimkjcaienbaaGreatDoor.tt
open Go.ChangeShapes Go.WideShapes Go.ChangeAt Go.RowKit Go.Deep
set_option linter.unusedVariables false
set_option linter.unusedSimpArgs false

/-! ### FnTreeBack: the law's walk -/

theorem big_any (a : Option Addr) (n cap : Nat) (w : World) : Calls Tryz.prog 5 #[.slice a n cap] w fun e w' => e = .returned (.bool (decide (1048576 < (n : Int)))) ∧ w' = w := by
  go_enter Tryz.func5, Tryz.ntmps5
  go_wp2
  go_ret
  exact ⟨rfl, rfl⟩
/-- A row of entries at its block. -/
structure RW (W : World) (g n cp : Nat) (E : Nat → En) : Prop where
  le : n ≤ cp
  lim : cp ≤ maxLen
  ent : EnR W g 0 n E
theorem RW.below {W W' : World} {g n cp : Nat} {E : Nat → En} (h : RW W g n cp E) (hb : Below W.heap.size W W') : RW W' g n cp E := ⟨h.le, h.lim, h.ent.below hb⟩
theorem RowE.rw' {B : Nat} {W : World} {v : Value} {n : Nat} {E : Nat → En} (h : RowE B W v n E) : ∃ g cp, v = .slice (some ⟨g, 0, none⟩) n cp ∧ RW W g n cp E := by
  obtain ⟨g, cp, f, rfl, hb, hn, hcm, hr, he⟩ := h
  exact ⟨g, cp, rfl, hn, hcm, he⟩
theorem RW.same {W : World} {g n cp : Nat} {E F : Nat → En} (h : RW W g n cp E) (he : ∀ k, k < n → E k = F k) : RW W g n cp F := ⟨h.le, h.lim, fun i hi => by have := h.ent i hi; rwa [he i hi] at this⟩
theorem code_below {w W : World} {a : Option Addr} {n : Nat} (h : dr.CodeB w a n) (hb : Below w.heap.size w W) : dr.CodeB W a n := by
  rcases h with h1 | ⟨b, off, rfl, h1⟩
  · exact .inl h1
  · refine .inr ⟨b, off, rfl, fun i hi => ?_⟩
    obtain ⟨x, hx, hc⟩ := h1 i hi
    exact ⟨x, hx, (hb.cell (p := ⟨b, off + i, none⟩) (World.block_lt_of_cell? _ _ hc)).trans hc⟩
theorem BfR.below {W W' : World} {g c : Nat} {l : List UInt8} (h : BfR W g c l) (hb : Below W.heap.size W W') : BfR W' g c l :=
  ⟨fun j hj => (hb.cell (p := ⟨g, j, none⟩) h.lt).trans (h.by' j hj), Nat.lt_of_lt_of_le h.lt hb.size, h.le, h.max⟩
theorem cell_be {W W' : World} {p : Addr} {v : Value} (h : W.cell? p = some v) (hb : Below W.heap.size W W') : W'.cell? p = some v := (hb.cell (World.block_lt_of_cell? _ _ h)).trans h
theorem tab_of {W : World} (h : wd.TabB W) : wd.Tab W := by
  obtain ⟨t, fr, h⟩ := h
  intro i hi
  have hl : wd.LET.length = 32 := by kernel_rfl
  have h1 : W.cell? ⟨0, i, none⟩ = wd.LETC[i]? := by simp [World.cell?, h]
  refine h1.trans ?_
  unfold wd.LETC wd.letU
  simp [List.getElem?_eq_getElem (show i < wd.LET.length by omega)]

theorem pack_c {E : Nat → En} {g m cp : Nat} {W : World} (hC : AtC E) (hr : RW W g m cp E) (hs : SmE m E) (hm : m ≤ 1048576) (hl : ML W) :
    Calls Tryz.prog 7 #[.slice (some ⟨g, 0, none⟩) m cp] W fun e w' => (∃ g' c', e = .returned (.slice (some ⟨g', 0, none⟩) (pkB E m).length c') ∧ BfR w' g' c' (pkB E m)) ∧ Below W.heap.size W w' :=
  (ipack_any E g 0 m cp W hr.ent hs hm hl hC).mono fun e w' ⟨⟨g', c', z, he, hz, hbf⟩, hb⟩ => ⟨⟨g', c', by rw [he, hz], bfr_of hbf⟩, hb⟩
theorem unpk_c {E : Nat → En} {g m c : Nat} {W : World} (hC : ∀ E, AtC E) (hb : BfR W g c (pkB E m)) (hl : (pkB E m).length ≤ 1048576) (ht : treeB E m = true) (hs : SmE m E) (hm : ML W) :
    Calls Tryz.prog 6 #[.slice (some ⟨g, 0, none⟩) (pkB E m).length c] W fun e w' => (∃ g' c', e = .returned (.tuple #[.slice (some ⟨g', 0, none⟩) m c', .bool true]) ∧ RW w' g' m c' E) ∧ Below W.heap.size W w' := by
  refine (up.iunp_any hC g _ (pkB E m) rfl hl W hb.by' hb.lt hm hb.le (by have := hb.max; unfold maxLen at this; omega)).mono ?_
  rintro e w' ⟨h, hbel⟩
  obtain ⟨v, X, rfl, hr, hx⟩ := unr_yes h ⟨ht, hs, rfl⟩
  obtain ⟨g', c', rfl, hq⟩ := hr.rw'
  exact ⟨⟨g', c', rfl, hq.same hx⟩, hbel⟩
noncomputable def gdB (l : List UInt8) : Bool := @decide (∃ E m, up.Good l E m) (Classical.propDecidable _)
theorem iun_c {g c : Nat} {l : List UInt8} {W : World} (hC : ∀ E, AtC E) (hb : BfR W g c l) (hl : l.length ≤ 1048576) (hm : ML W) :
    Calls Tryz.prog 6 #[.slice (some ⟨g, 0, none⟩) l.length c] W fun e w' => (∃ g' n c' X, e = .returned (.tuple #[.slice (some ⟨g', 0, none⟩) n c', .bool (gdB l)]) ∧ RW w' g' n c' X ∧ n ≤ 500 ∧ (gdB l = true → up.Good l X n)) ∧ Below W.heap.size W w' := by
  refine (up.iunp_any hC g _ l rfl hl W hb.by' hb.lt hm hb.le (by have := hb.max; unfold maxLen at this; omega)).mono ?_
  rintro e w' ⟨h, hbel⟩
  obtain ⟨v, n, X, rfl, hr, hn, hx⟩ := unr_any h
  obtain ⟨g', c', rfl, hq⟩ := hr.rw'
  exact ⟨⟨g', n, c', X, rfl, hq, hn, hx⟩, hbel⟩
theorem sun_c {g c : Nat} {l : List UInt8} {W : World} (hb : BfR W g c l) (hl : l.length ≤ 1048576) :
    Calls Tryz.prog 15 #[.slice (some ⟨g, 0, none⟩) l.length c] W fun e w' => (∃ v, e = .returned (.tuple #[v, .bool (gdB l)])) ∧ Below W.heap.size W w' := by
  refine (up.sunp_any g _ l rfl hl W hb.by' hb.lt hb.le (by have := hb.max; unfold maxLen at this; omega)).mono ?_
  rintro e w' ⟨h, hbel⟩
  obtain ⟨v, n, X, rfl, hr, hn, hx⟩ := unr_any h
  exact ⟨⟨v, rfl⟩, hbel⟩
theorem conv_bs {W : World} {g c : Nat} {l : List UInt8} (h : BfR W g c l) : (convert 22 9 (.slice (some ⟨g, 0, none⟩) l.length c)).run Tryz.prog W = .ok (.string ⟨l.toArray⟩) W :=
  run_convert_bytes_back (P := Tryz.prog) W 22 9 5 ⟨g, 0, none⟩ c l Tryz.underlying22 Tryz.underlying5 Tryz.underlying9 (fun j hj => by
    rw [addr_add, Nat.zero_add]
    exact h.by' j hj)

theorem bs_r {W : World} {g c : Nat} {l : List UInt8} (h : BfR W g c l) : sm.Bs W (some ⟨g, 0, none⟩) l.length (inL l) :=
  .inr ⟨g, 0, rfl, fun i hi => by rw [Nat.zero_add, h.by' i hi]; simp [inL, hi]⟩
theorem sum_c {g c : Nat} {l : List UInt8} {W : World} (hb : BfR W g c l) (hl : l.length ≤ 1048576) :
    Calls Tryz.prog 13 #[.slice (some ⟨g, 0, none⟩) l.length c] W fun e w' => e = .returned (.int .u64 (sumX l)) ∧ w' = W := sm.impl_any _ _ _ _ _ (bs_r hb) (by omega)
theorem tsum_c {E : Nat → En} {g m cp : Nat} {W : World} (hC : AtC E) (hr : RW W g m cp E) (hs : SmE m E) (hm : m ≤ 1048576) (hl : ML W) (hT : wd.TabB W) (ht : treeB E m = true) :
    Calls Tryz.prog 11 #[.slice (some ⟨g, 0, none⟩) m cp] W fun e w' => e = .returned (.string (wd.wordA (sumX (pkB E m)).toNat)) ∧ Below W.heap.size W w' := by
  have h := itsum_any E g 0 m cp W hr.ent hs hm hl hC (tab_of hT)
  rwa [tsB_yes ht] at h

/-- What the law asks of a list that PutEntry made. -/
structure PutR (E : Nat → En) (m : Nat) (e : En) (F : Nat → En) (M a : Nat) : Prop where
  tree : treeB F M = true
  few : M ≤ m + 1
  sm : SmE M F
  lt : a < M
  at' : F a = e
  fe : feB F M e.path.data.toList = (a : Int)
  more : feB E m e.path.data.toList < 0 → M = m + 1
  cut : cuB F M e.path.data.toList = true
  gone : feB (cuF F M e.path.data.toList) (cuN F M e.path.data.toList) e.path.data.toList < 0
  back : feB E m e.path.data.toList < 0 → cuN F M e.path.data.toList = m ∧ ∀ k, k < m → cuF F M e.path.data.toList k = E k
theorem feB_t {E : Nat → En} {n : Nat} {q : List UInt8} (h : treeB E n = true) : feB E n q = fnd E n q := by unfold feB; rw [if_pos h]
theorem putR {E : Nat → En} {m a : Nat} {e : En} (hS : SmE m E) (h1 : e.path.size ≤ 1048576) (h2 : e.data.size ≤ 1048576) (ht : treeB E m = true) (hr : Rk E m e.path.data.toList a) (hk : tkB E m e a = true) : PutR E m e (ptF E m e a) (ptN E m e a) a := by
  have hT := put_tb ht hr hk
  have hf := put_fnd ht hr hk
  have hcut : cuB (ptF E m e a) (ptN E m e a) e.path.data.toList = true := by
    unfold cuB
    rw [hT, decide_eq_true (by rw [hf]; omega)]
    rfl
  refine ⟨hT, ptN_le E m e a, sm_pt hS h1 h2 hr.le, put_lt hr, ptF_at E m a e, (feB_t hT).trans hf, fun h => ?_, hcut, cut_gone hcut, fun h => ?_⟩
  · rw [feB_t ht] at h
    exact put_more (fnd_neg h)
  · rw [feB_t ht] at h
    exact put_cut ht hr hk (fnd_neg h)
theorem iput_no {E : Nat → En} {g m cp a : Nat} {P d : ByteArray} {k : Int} {x : Bool} {W : World} (hC : ∀ E, AtC E) (hr : RW W g m cp E) (hS : SmE m E) (hn : m ≤ 1048576) (hP : P.size ≤ 1048576) (hd : d.size ≤ 1048576) (hm : ML W) (ht : treeB E m = true) (ha : Rk E m P.data.toList a) (hk : tkB E m ⟨P, k, d, x⟩ a = false) :
    Calls Tryz.prog 17 #[.slice (some ⟨g, 0, none⟩) m cp, .agg #[.string P, .int .i64 k, .string d, .bool x]] W fun r w' => (∃ g' c', r = .returned (.tuple #[.slice (some ⟨g', 0, none⟩) m c', .bool false]) ∧ RW w' g' m c' E) ∧ Below W.heap.size W w' := by
  refine (iput_any hC E g m cp a hr.le P d k x W hr.ent hS hn hP hd hm (fun _ => ha)).mono ?_
  rintro e w' ⟨⟨v, he, hq⟩, hb⟩
  have h1 : puB E m ⟨P, k, d, x⟩ a = false := by unfold puB; rw [ht, hk]; rfl
  have h2 : puN E m ⟨P, k, d, x⟩ a = m := by unfold puN; rw [if_pos ht, if_neg (by rw [hk]; decide)]
  have h3 : puF E m ⟨P, k, d, x⟩ a = E := by unfold puF; rw [if_neg (by rw [hk]; decide)]
  rw [h1] at he
  rw [h2, h3] at hq
  obtain ⟨g', c', rfl, hz⟩ := hq.rw'
  exact ⟨⟨g', c', he, hz⟩, hb⟩
theorem iput_yes {E : Nat → En} {g m cp a : Nat} {P d : ByteArray} {k : Int} {x : Bool} {W : World} (hC : ∀ E, AtC E) (hr : RW W g m cp E) (hS : SmE m E) (hn : m ≤ 1048576) (hP : P.size ≤ 1048576) (hd : d.size ≤ 1048576) (hm : ML W) (ht : treeB E m = true) (ha : Rk E m P.data.toList a) (hk : tkB E m ⟨P, k, d, x⟩ a = true) :
    Calls Tryz.prog 17 #[.slice (some ⟨g, 0, none⟩) m cp, .agg #[.string P, .int .i64 k, .string d, .bool x]] W fun r w' => (∃ g' c', r = .returned (.tuple #[.slice (some ⟨g', 0, none⟩) (ptN E m ⟨P, k, d, x⟩ a) c', .bool true]) ∧ RW w' g' (ptN E m ⟨P, k, d, x⟩ a) c' (ptF E m ⟨P, k, d, x⟩ a)) ∧ Below W.heap.size W w' := by
  refine (iput_any hC E g m cp a hr.le P d k x W hr.ent hS hn hP hd hm (fun _ => ha)).mono ?_
  rintro e w' ⟨⟨v, he, hq⟩, hb⟩
  have h1 : puB E m ⟨P, k, d, x⟩ a = true := by unfold puB; rw [ht, hk]; rfl
  have h2 : puN E m ⟨P, k, d, x⟩ a = ptN E m ⟨P, k, d, x⟩ a := by unfold puN; rw [if_pos ht, if_pos hk]
  have h3 : puF E m ⟨P, k, d, x⟩ a = ptF E m ⟨P, k, d, x⟩ a := by unfold puF; rw [if_pos hk]
  rw [h1] at he
  rw [h2, h3] at hq
  obtain ⟨g', c', rfl, hz⟩ := hq.rw'
  exact ⟨⟨g', c', he, hz⟩, hb⟩
theorem sput_c {E : Nat → En} {g m cp a : Nat} {P d : ByteArray} {k : Int} {x : Bool} {W : World} (hr : RW W g m cp E) (hS : SmE m E) (hn : m ≤ 1048576) (hP : P.size ≤ 1048576) (hd : d.size ≤ 1048576) (ht : treeB E m = true) (ha : Rk E m P.data.toList a) :
    Calls Tryz.prog 18 #[.slice (some ⟨g, 0, none⟩) m cp, .agg #[.string P, .int .i64 k, .string d, .bool x]] W fun r w' => (∃ v, r = .returned (.tuple #[v, .bool (tkB E m ⟨P, k, d, x⟩ a)])) ∧ Below W.heap.size W w' := by
  refine (sput_any E g m cp a hr.le hr.lim P d k x W hr.ent hS hn hP hd (fun _ => ha)).mono ?_
  rintro e w' ⟨⟨v, he, hq⟩, hb⟩
  have h1 : puB E m ⟨P, k, d, x⟩ a = tkB E m ⟨P, k, d, x⟩ a := by unfold puB; rw [ht]; rfl
  rw [h1] at he
  exact ⟨⟨v, he⟩, hb⟩
theorem icut_c {F : Nat → En} {g M c : Nat} {P : ByteArray} {W : World} (hC : ∀ E, AtC E) (hr : RW W g M c F) (hS : SmE M F) (hn : M ≤ 1048576) (hP : P.size ≤ 1048576) (hm : ML W) (hc : cuB F M P.data.toList = true) :
    Calls Tryz.prog 19 #[.slice (some ⟨g, 0, none⟩) M c, .string P] W fun r w' => (∃ g' c', r = .returned (.tuple #[.slice (some ⟨g', 0, none⟩) (cuN F M P.data.toList) c', .bool true]) ∧ RW w' g' (cuN F M P.data.toList) c' (cuF F M P.data.toList)) ∧ Below W.heap.size W w' := by
  refine (icut_any F g 0 M c P hP W hr.ent hS hn hm (hC F)).mono ?_
  rintro e w' ⟨⟨v, he, hq⟩, hb⟩
  rw [hc] at he
  obtain ⟨g', c', rfl, hz⟩ := hq.rw'
  exact ⟨⟨g', c', he, hz⟩, hb⟩
theorem cu_sm {F : Nat → En} {M : Nat} {q : List UInt8} (hS : SmE M F) (hc : cuB F M q = true) : SmE (cuN F M q) (cuF F M q) := by
  unfold cuB at hc
  rw [Bool.and_eq_true, decide_eq_true_iff] at hc
  intro i hi
  unfold cuN at hi
  rw [if_pos hc.1, if_pos hc.2] at hi
  unfold cuF
  rw [if_pos hc.2]
  have hm : (stL F q M).getD i 0 ∈ stL F q M := by rw [List.getD_eq_getElem?_getD, List.getElem?_eq_getElem hi]; exact List.getElem_mem hi
  exact hS _ (List.mem_range.1 (List.mem_filter.1 hm).1)
theorem rw_nil (W : World) : RW (W.alloc (.cells #[] 29)) W.heap.size 0 0 (fun _ => default) := ⟨Nat.le_refl _, by unfold maxLen; omega, fun i hi => by omega⟩
theorem tree0 : treeB (fun _ => (default : En)) 0 = true := by unfold treeB; exact @decide_eq_true _ (Classical.propDecidable _) ⟨by omega, Tr.zero _⟩
theorem sm0 : SmE 0 (fun _ => (default : En)) := fun i hi => by omega
theorem pk0 : (pkB (fun _ => (default : En)) 0).length ≤ 1048576 := by
  have h := pkL_few (E := fun _ => (default : En)) (D := 0) 0 (fun i hi => by omega)
  have h2 := hd_len (n := 0) (by omega)
  rw [pkB_yes tree0, List.length_append]
  omega

end Go.Proofs.YtaoimkjcaienbaaGreatDoor.tt

namespace Go.Proofs.YtaoimkjcaienbaaGreatDoor.tt
open Go.ChangeShapes Go.WideShapes Go.ChangeAt Go.RowKit Go.Deep
set_option linter.unusedVariables false
set_option linter.unusedSimpArgs false

/-! ### FnTreeBack: the law's walk -/

set_option maxHeartbeats 8000000 in
set_option maxRecDepth 100000 in
theorem tb_law (hC : ∀ E, AtC E) (a : Option Addr) (n cap : Nat) (w : World) (hb : dr.CodeB w a n) (hlt : ∀ x, a = some x → 0 < n → x.block < w.heap.size) (hm : ML w) (hT : wd.TabB w) :
    Calls Tryz.prog 3 #[.slice a n cap] w fun e w' => e = .returned (.bool true) ∧ Below w.heap.size w w' := by
  by_cases hn : n ≤ 1048576
  · have hn' : ¬ (1048576 : Int) < (n : Int) := by omega
    have hd' : decide (1048576 < (n : Int)) = false := by simpa using hn'
    have HM : Hid (∀ W, Below w.heap.size w W → ML W) := fun W h => hm.below h
    have HT : Hid (∀ W, Below w.heap.size w W → wd.TabB W) := fun W h => hT.below h
    have HD1 : Hid (∀ W, Below w.heap.size w W → Calls Tryz.prog 8 #[.slice a n cap] W fun e w' => (∃ v m E P k d x, e = .returned (.tuple #[v, .agg #[.string P, .int .i64 k, .string d, .bool x]]) ∧ P.size ≤ 64 ∧ d.size ≤ 20002 ∧ LE W w' v m E) ∧ Below W.heap.size W w') := fun W h => dput_draw a n cap W (code_below hb h) hn (fun x e h0 => Nat.lt_of_lt_of_le (hlt x e h0) h.size)
    have HD2 : Hid (∀ W, Below w.heap.size w W → Calls Tryz.prog 14 #[.slice a n cap] W fun e w' => (∃ g c l, e = .returned (.slice (some ⟨g, 0, none⟩) l.length c) ∧ l.length ≤ 1000000 ∧ BfR w' g c l) ∧ Below W.heap.size W w') := fun W h => dunp_any a n cap W (code_below hb h) hn (fun x e h0 => Nat.lt_of_lt_of_le (hlt x e h0) h.size)
    have HPK : Hid (∀ (E : Nat → En) W g m cp, Below w.heap.size w W → RW W g m cp E → SmE m E → m ≤ 1048576 → Calls Tryz.prog 7 #[.slice (some ⟨g, 0, none⟩) m cp] W fun e w' => (∃ g' c', e = .returned (.slice (some ⟨g', 0, none⟩) (pkB E m).length c') ∧ BfR w' g' c' (pkB E m)) ∧ Below W.heap.size W w') := fun E W g m cp h hr hs hm => pack_c (hC E) hr hs hm (HM.out W h)
    have HUP : Hid (∀ (E : Nat → En) W g m c, Below w.heap.size w W → BfR W g c (pkB E m) → (pkB E m).length ≤ 1048576 → treeB E m = true → SmE m E → Calls Tryz.prog 6 #[.slice (some ⟨g, 0, none⟩) (pkB E m).length c] W fun e w' => (∃ g' c', e = .returned (.tuple #[.slice (some ⟨g', 0, none⟩) m c', .bool true]) ∧ RW w' g' m c' E) ∧ Below W.heap.size W w') := fun E W g m c h hb hl ht hs => unpk_c hC hb hl ht hs (HM.out W h)
    have HA : Hid (Below w.heap.size w (w.alloc (.cells #[] 29))) := (Below.refl _ _).alloc (Nat.le_refl _) _
    clear hb hlt hT hm
    go_enter Tryz.func3, Tryz.ntmps3
    go_wp2_with (go_at_call 5; refine (big_any _ _ _ _).mono ?_; rintro e w' ⟨rfl, hw⟩; have hw2 := hw.symm; subst hw2; clear hw; rw [hd'])
    go_wp2_with (go_at_call 7; refine (HPK.out _ _ _ _ _ HA.out (rw_nil w) sm0 (by omega)).mono ?_; rintro e w1 ⟨⟨g1, c1, rfl, hb1⟩, l1⟩; have B1 := Lib.hid (HA.out.trans (l1.mono HA.out.size)); have HB1 := Lib.hid hb1; clear l1 hb1 HA; refine Hid.out ?_)
    refine Lib.hid ?_
    go_wp2_with (go_at_call 6; refine (HUP.out _ _ _ _ _ B1.out HB1.out pk0 tree0 sm0).mono ?_; rintro e w2 ⟨⟨g2, c2, rfl, hr2⟩, l2⟩; have B2 := Lib.hid (B1.out.trans (l2.mono B1.out.size)); clear l2 hr2 HB1 B1; refine Hid.out ?_)
    refine Lib.hid ?_
    go_wp2_with (go_at_call 8; refine (HD1.out _ B2.out).mono ?_; rintro e w3 ⟨⟨v, m, E, P, k, d, x, rfl, hP, hd, hle⟩, l3⟩; have B3 := Lib.hid (B2.out.trans (l3.mono B2.out.size)); obtain ⟨g, cp, rfl, hcp, hcm, hen⟩ := hle.at'; have HLE := Lib.hid (⟨hle.sm, hle.few, hle.pk⟩ : SmD m E ∧ m ≤ 502 ∧ (pkB E m).length ≤ 600000); have HR3 := Lib.hid (⟨hcp, hcm, hen⟩ : RW w3 g m cp E); clear l3 hle hcp hcm hen HD1; refine Hid.out ?_)
    refine Lib.hid ?_
    go_upto_region 7 with fail
    have HX4 : Hid (BxE (w3.alloc (.cells #[.string P, .int .i64 k, .string d, .bool x] 29)) w3.heap.size P d k x) := bxE_new _ _ _ _ _ _
    have L4 : Hid (Below w3.heap.size w3 (w3.alloc (.cells #[.string P, .int .i64 k, .string d, .bool x] 29))) := (Below.refl _ _).alloc (Nat.le_refl _) _
    have B4 : Hid (Below w.heap.size w (w3.alloc (.cells #[.string P, .int .i64 k, .string d, .bool x] 29))) := B3.out.trans (L4.out.mono B3.out.size)
    have HR4 := Lib.hid (HR3.out.below L4.out)
    generalize w3.alloc (.cells #[.string P, .int .i64 k, .string d, .bool x] 29) = w4 at HX4 B4 HR4 L4 ⊢
    clear L4 HR3 B3 B2 HUP
    generalize w3.heap.size = eb at HX4 ⊢
    have hm5 : m ≤ 502 := HLE.out.2.1
    have HSM : Hid (SmE m E) := HLE.out.1.sm
    have HX : Hid (∀ W, Below w4.heap.size w4 W → BxE W eb P d k x) := fun W h => HX4.out.below h
    have HW : Hid (∀ W, Below w4.heap.size w4 W → Below w.heap.size w W) := fun W h => B4.out.trans (h.mono B4.out.size)
    have HRT : Hid (∀ W, Below w4.heap.size w4 W → RW W g m cp E) := fun W h => HR4.out.below h
    have HPE : Hid (Calls Tryz.prog 7 #[.slice (some ⟨g, 0, none⟩) m cp] w4 fun e w' => (∃ g' c', e = .returned (.slice (some ⟨g', 0, none⟩) (pkB E m).length c') ∧ BfR w' g' c' (pkB E m)) ∧ Below w4.heap.size w4 w') := HPK.out E _ _ _ _ B4.out HR4.out HSM.out (by omega)
    have HTO : Hid (∀ W, Below w4.heap.size w4 W → Calls Tryz.prog 9 #[.slice (some ⟨g, 0, none⟩) m cp] W fun e w' => e = .returned (.bool (treeB E m)) ∧ Below W.heap.size W w') := fun W h => stree_any E g 0 m cp W (HRT.out W h).ent HSM.out (by omega) (HRT.out W h).le (HRT.out W h).lim
    clear B4 HR4 HX4
    cases ht : treeB E m with
    | false =>
      rw [ht] at HTO
      have HZ : Hid ((pkB E m).length = 0) := by show _ = _; rw [pkB_no ht]; rfl
      obtain ⟨Z, hZ⟩ : ∃ Z, (pkB E m).length = Z := ⟨_, rfl⟩
      rw [hZ] at HPE HZ
      obtain rfl : Z = 0 := HZ.out
      clear hZ HZ ht
      go_wp2_with (go_at_call 7; refine HPE.out.mono ?_; rintro e w5 ⟨⟨g5, c5, rfl, hb5⟩, l5⟩; have C5 := Lib.hid l5; clear l5 hb5; refine Hid.out ?_)
      refine Lib.hid ?_
      go_wp2_with (go_at_call 9; refine (HTO.out _ C5.out).mono ?_; rintro e w6 ⟨rfl, l6⟩; have C6 := Lib.hid (C5.out.trans (l6.mono C5.out.size)); clear l6; refine Hid.out ?_)
      refine Lib.hid ?_
      go_wp2
      go_ret
      exact ⟨rfl, HW.out _ C6.out⟩
    | true =>
      rw [ht] at HTO
      have HTT := Lib.hid ht
      have HPL : Hid ((pkB E m).length ≤ 600000) := HLE.out.2.2
      have HPK2 : Hid (∀ (F : Nat → En) W g m cp, Below w4.heap.size w4 W → RW W g m cp F → SmE m F → m ≤ 1048576 → Calls Tryz.prog 7 #[.slice (some ⟨g, 0, none⟩) m cp] W fun e w' => (∃ g' c', e = .returned (.slice (some ⟨g', 0, none⟩) (pkB F m).length c') ∧ BfR w' g' c' (pkB F m)) ∧ Below W.heap.size W w') := fun E W g m cp h hr hs hm => HPK.out E W g m cp (HW.out _ h) hr hs hm
      have HUE : Hid (∀ W g' c', Below w4.heap.size w4 W → BfR W g' c' (pkB E m) → Calls Tryz.prog 6 #[.slice (some ⟨g', 0, none⟩) (pkB E m).length c'] W fun e w' => (∃ g' c', e = .returned (.tuple #[.slice (some ⟨g', 0, none⟩) m c', .bool true]) ∧ RW w' g' m c' E) ∧ Below W.heap.size W w') := fun W g' c' h hb => unpk_c hC hb (by have := HPL.out; omega) HTT.out HSM.out (HM.out W (HW.out W h))
      have HSA : Hid (∀ W g' c', Below w4.heap.size w4 W → RW W g' m c' E → Calls Tryz.prog 10 #[.slice (some ⟨g, 0, none⟩) m cp, .slice (some ⟨g', 0, none⟩) m c'] W fun e w' => e = .returned (.bool true) ∧ Below W.heap.size W w') := fun W g' c' h hr => same_any g g' m cp c' E W (HRT.out W h).ent hr.ent (by omega)
      have HSB : Hid (∀ W g' c', Below w4.heap.size w4 W → RW W g' m c' E → Calls Tryz.prog 10 #[.slice (some ⟨g', 0, none⟩) m c', .slice (some ⟨g, 0, none⟩) m cp] W fun e w' => e = .returned (.bool true) ∧ Below W.heap.size W w') := fun W g' c' h hr => same_any g' g m c' cp E W hr.ent (HRT.out W h).ent (by omega)
      have HTS : Hid (∀ W, Below w4.heap.size w4 W → Calls Tryz.prog 11 #[.slice (some ⟨g, 0, none⟩) m cp] W fun e w' => e = .returned (.string (wd.wordA (sumX (pkB E m)).toNat)) ∧ Below W.heap.size W w') := fun W h => tsum_c (hC E) (HRT.out W h) HSM.out (by omega) (HM.out W (HW.out W h)) (HT.out W (HW.out W h)) HTT.out
      have HSU : Hid (∀ W g' c', BfR W g' c' (pkB E m) → Calls Tryz.prog 13 #[.slice (some ⟨g', 0, none⟩) (pkB E m).length c'] W fun e w' => e = .returned (.int .u64 (sumX (pkB E m))) ∧ w' = W) := fun W g' c' hb => sum_c hb (by have := HPL.out; omega)
      have HWO : Hid (∀ W, Below w4.heap.size w4 W → Calls Tryz.prog 12 #[.int .u64 (sumX (pkB E m))] W fun e w' => e = .returned (.string (wd.wordA (sumX (pkB E m)).toNat)) ∧ Below W.heap.size W w') := fun W h => wimpl (sumX_wf _) W (tab_of (HT.out W (HW.out W h)))
      have HFE : Hid (∀ W, Below w4.heap.size w4 W → Calls Tryz.prog 16 #[.slice (some ⟨g, 0, none⟩) m cp, .string P] W fun e w' => e = .returned (.int .i64 (feB E m P.data.toList)) ∧ Below W.heap.size W w') := fun W h => ife_any E g 0 m cp P (by omega) W (HRT.out W h).ent HSM.out (by omega) (HM.out W (HW.out W h)) (hC E)
      obtain ⟨r, hr⟩ := rk_ex (q := P.data.toList) m (treeB_is ht).2.asc
      have HRK := Lib.hid hr
      clear hr ht
      generalize sumX (pkB E m) = S at HTS HSU HWO
      generalize wd.wordA S.toNat = SW at HTS HWO
      go_wp2_with (go_at_call 7; refine HPE.out.mono ?_; rintro e w5 ⟨⟨g5, c5, rfl, hb5⟩, l5⟩; have C5 := Lib.hid l5; have HB5 := Lib.hid hb5; clear l5 hb5; refine Hid.out ?_)
      refine Lib.hid ?_
      go_wp2_with (go_at_call 9; refine (HTO.out _ C5.out).mono ?_; rintro e w6 ⟨rfl, l6⟩; have C6 := Lib.hid (C5.out.trans (l6.mono C5.out.size)); have HB6 := Lib.hid (HB5.out.below l6); clear l6 HB5 C5 HTO HPE; refine Hid.out ?_)
      refine Lib.hid ?_
      go_wp2_with (go_at_call 6; refine (HUE.out _ _ _ C6.out HB6.out).mono ?_; rintro e w7 ⟨⟨g7, c7, rfl, hr7⟩, l7⟩; have C7 := Lib.hid (C6.out.trans (l7.mono C6.out.size)); have HB7 := Lib.hid (HB6.out.below l7); have HR7 := Lib.hid hr7; clear l7 hr7 HB6 C6 HUE; refine Hid.out ?_)
      refine Lib.hid ?_
      go_wp2_with (go_at_call 10; refine (HSA.out _ _ _ C7.out HR7.out).mono ?_; rintro e w8 ⟨rfl, l8⟩; have C8 := Lib.hid (C7.out.trans (l8.mono C7.out.size)); have HB8 := Lib.hid (HB7.out.below l8); clear l8 HB7 C7 HR7 HSA; refine Hid.out ?_)
      refine Lib.hid ?_
      go_wp2_with (go_at_call 11; refine (HTS.out _ C8.out).mono ?_; rintro e w9 ⟨rfl, l9⟩; have C9 := Lib.hid (C8.out.trans (l9.mono C8.out.size)); have HB9 := Lib.hid (HB8.out.below l9); clear l9 HB8 C8 HTS; refine Hid.out ?_)
      refine Lib.hid ?_
      go_wp2_with (go_at_call 13; refine (HSU.out _ _ _ HB9.out).mono ?_; rintro e w10 ⟨rfl, hw⟩; have hw2 := hw.symm; subst hw2; clear hw HSU HB9; refine Hid.out ?_)
      refine Lib.hid ?_
      go_wp2_with (go_at_call 12; refine (HWO.out _ C9.out).mono ?_; rintro e w10 ⟨rfl, l10⟩; have C10 := Lib.hid (C9.out.trans (l10.mono C9.out.size)); clear l10 C9 HWO; refine Hid.out ?_)
      refine Lib.hid ?_
      generalize (pkB E m).length = Z at *
      go_wp2_with (go_at_call 14; refine (HD2.out _ (HW.out _ C10.out)).mono ?_; rintro e w11 ⟨⟨gz, cz, l, rfl, hl, hbz⟩, l11⟩; have C11 := Lib.hid (C10.out.trans (l11.mono C10.out.size)); have HBZ := Lib.hid hbz; have HLL := Lib.hid hl; clear l11 C10 hbz hl; refine Hid.out ?_)
      refine Lib.hid ?_
      have HIU : Hid (Calls Tryz.prog 6 #[.slice (some ⟨gz, 0, none⟩) l.length cz] w11 fun e w' => (∃ g' n c' X, e = .returned (.tuple #[.slice (some ⟨g', 0, none⟩) n c', .bool (gdB l)]) ∧ RW w' g' n c' X ∧ n ≤ 500 ∧ (gdB l = true → up.Good l X n)) ∧ Below w11.heap.size w11 w') := iun_c hC HBZ.out (by have := HLL.out; omega) (HM.out _ (HW.out _ C11.out))
      have HSP : Hid (∀ W, BfR W gz cz l → Calls Tryz.prog 15 #[.slice (some ⟨gz, 0, none⟩) l.length cz] W fun e w' => (∃ v, e = .returned (.tuple #[v, .bool (gdB l)])) ∧ Below W.heap.size W w') := fun W hb => sun_c hb (by have := HLL.out; omega)
      generalize gdB l = q at HIU HSP
      go_wp2_with (go_at_call 6; refine HIU.out.mono ?_; rintro e w12 ⟨⟨gv, n2, cv, X, rfl, hr12, hn2, hg⟩, l12⟩; have C12 := Lib.hid (C11.out.trans (l12.mono C11.out.size)); have HV12 := Lib.hid hr12; have HN2 := Lib.hid hn2; have HG := Lib.hid hg; have HZ12 := Lib.hid (HBZ.out.below l12); clear l12 hr12 hn2 hg HIU C11 HBZ; refine Hid.out ?_)
      refine Lib.hid ?_
      have hqq : (q != q) = false := by cases q <;> rfl
      go_wp2_with (go_at_call 15; refine (HSP.out _ HZ12.out).mono ?_; rintro e w13 ⟨⟨v13, rfl⟩, l13⟩; have C13 := Lib.hid (C12.out.trans (l13.mono C12.out.size)); have HV13 := Lib.hid (HV12.out.below l13); have HZ13 := Lib.hid (HZ12.out.below l13); clear l13 HSP HV12 HZ12 C12; refine Hid.out ?_)
      refine Lib.hid ?_
      go_upto_region 18 with fail
      go_cut [95] from 87 to 95 (fun v wx => v = .bool false ∧ Below w13.heap.size w13 wx)
      case first =>
        cases q with
        | false =>
          refine wq 9 (S := fun _ => True) (by kernel_rfl) trivial fun hHeld => ?_
          iterate 2 (refine un 9 rfl ?_;try simp only [aP])
          iterate 6 (refine sn 9 rfl ?_;try simp only [aP])
          refine un 9 rfl ?_
          try simp only [aP]
          refine dq ?_
          go_wp2
          go_meet
          exact ⟨rfl, (Below.refl _ _).drew⟩
        | true =>
          obtain ⟨hgt, hgs, rfl⟩ := HG.out rfl
          have HGS := Lib.hid hgs
          have HVD := Lib.hid (HV13.out.below (Below.refl _ _).drew)
          have HCD : Hid (Below w4.heap.size w4 w13.drew) := C13.out.drew
          have HBD : Hid (Below w13.heap.size w13 w13.drew) := (Below.refl _ _).drew
          have HPV : Hid (Calls Tryz.prog 7 #[.slice (some ⟨gv, 0, none⟩) n2 cv] w13.drew fun e w' => (∃ g' c', e = .returned (.slice (some ⟨g', 0, none⟩) (pkB X n2).length c') ∧ BfR w' g' c' (pkB X n2)) ∧ Below w13.drew.heap.size w13.drew w') := HPK2.out X _ _ _ _ HCD.out HVD.out HGS.out (by have := HN2.out; omega)
          clear hgt hgs
          refine wq 9 (S := fun W => BfR W gz cz (pkB X n2)) (by kernel_rfl) (HZ13.out.below (Below.refl _ _).drew) fun hHeld => ?_
          generalize w13.drew = w14 at *
          iterate 3 (refine un 9 rfl ?_;try simp only [aP])
          refine uq (i := 5) rfl ?_
          try simp only [aP]
          refine uq (i := 6) rfl ?_ (by intro W hSw; have hc := conv_bs hSw; go_simp; try with_reducible rfl)
          try simp only [aP]
          refine rq 3 rfl fun K hK => ?_
          go_simp
          (go_at_call 7; refine HPV.out.mono ?_; rintro e w15 ⟨⟨g15, c15, rfl, hb15⟩, l15⟩)
          try go_wp2_with fail
          have HB15 := Lib.hid hb15
          have L15 := Lib.hid (HBD.out.trans (l15.mono HBD.out.size))
          refine hK.out _ _ (hHeld.below l15) (fun hHeld => ?_)
          clear hK K l15 hb15
          try simp only [aP]
          refine rq 4 rfl fun K hK => ?_
          have hc := conv_bs HB15.out
          go_simp
          try go_wp2_with fail
          refine hK.out _ _ hHeld (fun hHeld => ?_)
          clear hK K hc
          try simp only [aP]
          refine uq (i := 7) rfl ?_
          try simp only [aP]
          refine uq (i := 8) rfl ?_
          try simp only [aP]
          refine dq ?_
          go_wp2
          go_meet
          exact ⟨rfl, L15.out⟩
      case rest =>
        obtain ⟨rfl, l14⟩ := hcut
        have C14 := Lib.hid (C13.out.trans (l14.mono C13.out.size))
        clear l14 C13 HV13 HZ13 HG HN2 hqq HLL HPK HPK2 HPL HLE
        obtain ⟨y0, y1, y2, y3⟩ := HX.out _ C14.out
        have HPU0 : Hid (tkB E m ⟨P, k, d, x⟩ r = false → ∀ W, Below w4.heap.size w4 W → Calls Tryz.prog 17 #[.slice (some ⟨g, 0, none⟩) m cp, .agg #[.string P, .int .i64 k, .string d, .bool x]] W fun r w' => (∃ g' c', r = .returned (.tuple #[.slice (some ⟨g', 0, none⟩) m c', .bool false]) ∧ RW w' g' m c' E) ∧ Below W.heap.size W w') := fun hk W h => iput_no hC (HRT.out W h) HSM.out (by omega) (by omega) (by omega) (HM.out W (HW.out W h)) HTT.out HRK.out hk
        have HPU1 : Hid (tkB E m ⟨P, k, d, x⟩ r = true → ∀ W, Below w4.heap.size w4 W → Calls Tryz.prog 17 #[.slice (some ⟨g, 0, none⟩) m cp, .agg #[.string P, .int .i64 k, .string d, .bool x]] W fun e w' => (∃ g' c', e = .returned (.tuple #[.slice (some ⟨g', 0, none⟩) (ptN E m ⟨P, k, d, x⟩ r) c', .bool true]) ∧ RW w' g' (ptN E m ⟨P, k, d, x⟩ r) c' (ptF E m ⟨P, k, d, x⟩ r)) ∧ Below W.heap.size W w') := fun hk W h => iput_yes hC (HRT.out W h) HSM.out (by omega) (by omega) (by omega) (HM.out W (HW.out W h)) HTT.out HRK.out hk
        have HPS : Hid (∀ W, Below w4.heap.size w4 W → Calls Tryz.prog 18 #[.slice (some ⟨g, 0, none⟩) m cp, .agg #[.string P, .int .i64 k, .string d, .bool x]] W fun e w' => (∃ v, e = .returned (.tuple #[v, .bool (tkB E m ⟨P, k, d, x⟩ r)])) ∧ Below W.heap.size W w') := fun W h => sput_c (HRT.out W h) HSM.out (by omega) (by omega) (by omega) HTT.out HRK.out
        have HR : Hid (tkB E m ⟨P, k, d, x⟩ r = true → PutR E m ⟨P, k, d, x⟩ (ptF E m ⟨P, k, d, x⟩ r) (ptN E m ⟨P, k, d, x⟩ r) r) := fun hk => putR HSM.out (by show P.size ≤ _; omega) (by show d.size ≤ _; omega) HTT.out HRK.out hk
        obtain ⟨was, hwas⟩ : ∃ was : Int, was = feB E m P.data.toList := ⟨_, rfl⟩
        rw [← hwas] at HFE
        have HWAS := Lib.hid hwas
        clear hwas
        generalize tkB E m ⟨P, k, d, x⟩ r = tk at HPU0 HPU1 HPS HR
        go_wp2_with (go_at_call 16; refine (HFE.out _ C14.out).mono ?_; rintro e w15 ⟨rfl, l15⟩; have C15 := Lib.hid (C14.out.trans (l15.mono C14.out.size)); clear l15 y0 y1 y2 y3 C14 HFE; refine Hid.out ?_)
        refine Lib.hid ?_
        obtain ⟨y0, y1, y2, y3⟩ := HX.out _ C15.out
        cases tk with
        | false =>
          have HPU := Lib.hid (HPU0.out rfl)
          clear HPU0 HPU1 HR
          go_wp2_with (go_at_call 17; refine (HPU.out _ C15.out).mono ?_; rintro e w16 ⟨⟨gx, cx, rfl, hr16⟩, l16⟩; have C16 := Lib.hid (C15.out.trans (l16.mono C15.out.size)); have HX16 := Lib.hid hr16; clear l16 hr16 y0 y1 y2 y3 C15; refine Hid.out ?_)
          refine Lib.hid ?_
          obtain ⟨y0, y1, y2, y3⟩ := HX.out _ C16.out
          go_wp2_with (go_at_call 18; refine (HPS.out _ C16.out).mono ?_; rintro e w17 ⟨⟨v17, rfl⟩, l17⟩; have C17 := Lib.hid (C16.out.trans (l17.mono C16.out.size)); have HX17 := Lib.hid (HX16.out.below l17); clear l17 y0 y1 y2 y3 C16 HX16; refine Hid.out ?_)
          refine Lib.hid ?_
          go_wp2_with (go_at_call 10; refine (HSB.out _ _ _ C17.out HX17.out).mono ?_; rintro e w18 ⟨rfl, l18⟩; have C18 := Lib.hid (C17.out.trans (l18.mono C17.out.size)); clear l18; refine Hid.out ?_)
          refine Lib.hid ?_
          go_wp2
          go_ret
          exact ⟨rfl, HW.out _ C18.out⟩
        | true =>
          have HPU := Lib.hid (HPU1.out rfl)
          have HF := Lib.hid (HR.out rfl)
          clear HPU0 HPU1 HR
          generalize ptF E m ⟨P, k, d, x⟩ r = F at HPU HF
          generalize ptN E m ⟨P, k, d, x⟩ r = M at HPU HF
          have hM5 : M ≤ 503 := by have := HF.out.few; omega
          have hrM : r < M := HF.out.lt
          have HTX : Hid (∀ W g c, RW W g M c F → Calls Tryz.prog 9 #[.slice (some ⟨g, 0, none⟩) M c] W fun e w' => e = .returned (.bool true) ∧ Below W.heap.size W w') := fun W g c hr => by
            have h := stree_any F g 0 M c W hr.ent HF.out.sm (by omega) hr.le hr.lim
            rwa [HF.out.tree] at h
          have HFX : Hid (∀ W g c, Below w4.heap.size w4 W → RW W g M c F → Calls Tryz.prog 16 #[.slice (some ⟨g, 0, none⟩) M c, .string P] W fun e w' => e = .returned (.int .i64 (r : Int)) ∧ Below W.heap.size W w') := fun W g c h hr => by
            have h1 := ife_any F g 0 M c P (by omega) W hr.ent HF.out.sm (by omega) (HM.out W (HW.out W h)) (hC F)
            rwa [show feB F M P.data.toList = (r : Int) from HF.out.fe] at h1
          have HCX : Hid (∀ W g c, Below w4.heap.size w4 W → RW W g M c F → Calls Tryz.prog 19 #[.slice (some ⟨g, 0, none⟩) M c, .string P] W fun r w' => (∃ g' c', r = .returned (.tuple #[.slice (some ⟨g', 0, none⟩) (cuN F M P.data.toList) c', .bool true]) ∧ RW w' g' (cuN F M P.data.toList) c' (cuF F M P.data.toList)) ∧ Below W.heap.size W w') := fun W g c h hr => icut_c hC hr HF.out.sm (by omega) (by omega) (HM.out W (HW.out W h)) HF.out.cut
          have hNM := cuN_le F M P.data.toList
          have HFY : Hid (∀ W g c, Below w4.heap.size w4 W → RW W g (cuN F M P.data.toList) c (cuF F M P.data.toList) → Calls Tryz.prog 16 #[.slice (some ⟨g, 0, none⟩) (cuN F M P.data.toList) c, .string P] W fun e w' => e = .returned (.int .i64 (feB (cuF F M P.data.toList) (cuN F M P.data.toList) P.data.toList)) ∧ Below W.heap.size W w') := fun W g c h hr => ife_any _ g 0 _ c P (by omega) W hr.ent (cu_sm HF.out.sm HF.out.cut) (by omega) (HM.out W (HW.out W h)) (hC _)
          have HG1 : Hid (feB (cuF F M P.data.toList) (cuN F M P.data.toList) P.data.toList < 0) := HF.out.gone
          have HG2 : Hid (was < 0 → cuN F M P.data.toList = m ∧ ∀ k, k < m → cuF F M P.data.toList k = E k) := fun h => HF.out.back (by have := HWAS.out; show feB E m P.data.toList < 0; omega)
          have HG3 : Hid (was < 0 → M = m + 1) := fun h => HF.out.more (by have := HWAS.out; show feB E m P.data.toList < 0; omega)
          have HFR : Hid (F r = ⟨P, k, d, x⟩) := HF.out.at'
          generalize feB (cuF F M P.data.toList) (cuN F M P.data.toList) P.data.toList = fy at HFY HG1
          generalize cuF F M P.data.toList = YF at HCX HFY HG2
          generalize cuN F M P.data.toList = Y at HCX HFY HG2 hNM
          clear HWAS HF HRK HTT
          go_wp2_with (go_at_call 17; refine (HPU.out _ C15.out).mono ?_; rintro e w16 ⟨⟨gx, cx, rfl, hr16⟩, l16⟩; have C16 := Lib.hid (C15.out.trans (l16.mono C15.out.size)); have HX16 := Lib.hid hr16; clear l16 hr16 y0 y1 y2 y3 C15 HPU; refine Hid.out ?_)
          refine Lib.hid ?_
          obtain ⟨y0, y1, y2, y3⟩ := HX.out _ C16.out
          go_wp2_with (go_at_call 18; refine (HPS.out _ C16.out).mono ?_; rintro e w17 ⟨⟨v17, rfl⟩, l17⟩; have C17 := Lib.hid (C16.out.trans (l17.mono C16.out.size)); have HX17 := Lib.hid (HX16.out.below l17); clear l17 y0 y1 y2 y3 C16 HX16 HPS; refine Hid.out ?_)
          refine Lib.hid ?_
          obtain ⟨y0, y1, y2, y3⟩ := HX.out _ C17.out
          go_wp2_with (go_at_call 16; refine (HFX.out _ _ _ C17.out HX17.out).mono ?_; rintro e w18 ⟨rfl, l18⟩; have C18 := Lib.hid (C17.out.trans (l18.mono C17.out.size)); have HX18 := Lib.hid (HX17.out.below l18); clear l18 y0 y1 y2 y3 C17 HX17 HFX; refine Hid.out ?_)
          refine Lib.hid ?_
          go_upto_region 28 with fail
          have hr2 : (r : Int) < (M : Int) := by omega
          have hr3 : (0 : Int) ≤ (r : Int) := by omega
          have hr1 : ¬ (r : Int) < 0 := by omega
          go_cut [150] from 124 to 150 (fun v wx => v = .bool false ∧ Below w18.heap.size w18 wx)
          case first =>
            have HC : Hid (N4 w18.drew gx (r * 4) ⟨P, k, d, x⟩) := by
              have h1 := (HX18.out.ent r hrM).below (Below.refl _ _).drew
              rw [Nat.zero_add, HFR.out] at h1
              exact h1
            have HB0 : Hid (BxE w18.drew eb P d k x) := HX.out _ C18.out.drew
            have HBD : Hid (Below w18.heap.size w18 w18.drew) := (Below.refl _ _).drew
            have HTX0 := Lib.hid (HTX.out _ _ _ (HX18.out.below (Below.refl _ _).drew))
            unfold N4 BxE at *
            refine wq 27 (S := fun W => (W.cell? ⟨gx, r * 4, none⟩ = some (.string P) ∧ W.cell? ⟨gx, r * 4 + 1, none⟩ = some (.int .i64 k) ∧ W.cell? ⟨gx, r * 4 + 2, none⟩ = some (.string d) ∧ W.cell? ⟨gx, r * 4 + 3, none⟩ = some (.bool x)) ∧ W.cell? ⟨eb, 0, none⟩ = some (.string P) ∧ W.cell? ⟨eb, 1, none⟩ = some (.int .i64 k) ∧ W.cell? ⟨eb, 2, none⟩ = some (.string d) ∧ W.cell? ⟨eb, 3, none⟩ = some (.bool x)) (by kernel_rfl) ⟨HC.out, HB0.out⟩ fun hHeld => ?_
            clear HC HB0
            generalize w18.drew = w19 at *
            refine un 27 rfl ?_
            try simp only [aP]
            refine rq 1 rfl fun K hK => ?_
            go_simp
            (go_at_call 9; refine HTX0.out.mono ?_; rintro e w20 ⟨rfl, l20⟩)
            try go_wp2_with fail
            have L20 := Lib.hid (HBD.out.trans (l20.mono HBD.out.size))
            refine hK.out _ _ ⟨⟨cell_be hHeld.1.1 l20, cell_be hHeld.1.2.1 l20, cell_be hHeld.1.2.2.1 l20, cell_be hHeld.1.2.2.2 l20⟩, cell_be hHeld.2.1 l20, cell_be hHeld.2.2.1 l20, cell_be hHeld.2.2.2.1 l20, cell_be hHeld.2.2.2.2 l20⟩ (fun hHeld => ?_)
            clear hK K l20
            try simp only [aP]
            iterate 15 (refine un 27 rfl ?_;try simp only [aP])
            by_cases hw : was < 0
            · have hw1 : IntKind.i64.wrap ((m : Int) + 1) = (M : Int) := by have := HG3.out hw; rw [IntKind.wrap_i64]; omega
              iterate 10 (refine un 27 rfl ?_;try simp only [aP])
              refine dq ?_
              go_wp2
              go_meet
              exact ⟨rfl, L20.out⟩
            · iterate 2 (refine un 27 rfl ?_;try simp only [aP])
              iterate 6 (refine sn 27 rfl ?_;try simp only [aP])
              iterate 2 (refine un 27 rfl ?_;try simp only [aP])
              refine dq ?_
              go_wp2
              go_meet
              exact ⟨rfl, L20.out⟩
          case rest =>
            obtain ⟨rfl, l20⟩ := hcut
            have C20 := Lib.hid (C18.out.trans (l20.mono C18.out.size))
            have HX20 := Lib.hid (HX18.out.below l20)
            clear l20 C18 HX18 HTX HFR HG3
            obtain ⟨y0, y1, y2, y3⟩ := HX.out _ C20.out
            go_wp2_with (go_at_call 19; refine (HCX.out _ _ _ C20.out HX20.out).mono ?_; rintro e w21 ⟨⟨gy, cy, rfl, hr21⟩, l21⟩; have C21 := Lib.hid (C20.out.trans (l21.mono C20.out.size)); have HY21 := Lib.hid hr21; clear l21 hr21 y0 y1 y2 y3 C20 HX20 HCX; refine Hid.out ?_)
            refine Lib.hid ?_
            obtain ⟨y0, y1, y2, y3⟩ := HX.out _ C21.out
            have hfy := HG1.out
            by_cases hw : was < 0
            · have hw' : ¬ (0 : Int) ≤ was := by omega
              obtain ⟨hY, hYE⟩ := HG2.out hw
              have HSY : Hid (RW w21 gy m cy E) := by have h := HY21.out; rw [hY] at h; exact h.same hYE
              subst hY
              clear hYE
              go_wp2_with (go_at_call 10; refine (HSB.out _ _ _ C21.out HSY.out).mono ?_; rintro e w22 ⟨rfl, l22⟩; have C22 := Lib.hid (C21.out.trans (l22.mono C21.out.size)); have HY22 := Lib.hid (HY21.out.below l22); clear l22 y0 y1 y2 y3 C21 HY21; obtain ⟨y0, y1, y2, y3⟩ := HX.out _ C22.out; refine Hid.out ?_)
              refine Lib.hid ?_
              go_wp2_with (go_at_call 16; refine (HFY.out _ _ _ C22.out HY22.out).mono ?_; rintro e w23 ⟨rfl, l23⟩; have C23 := Lib.hid (C22.out.trans (l23.mono C22.out.size)); clear l23; refine Hid.out ?_)
              refine Lib.hid ?_
              go_wp2
              go_ret
              exact ⟨rfl, HW.out _ C23.out⟩
            · have hw' : (0 : Int) ≤ was := by omega
              go_wp2_with (go_at_call 16; refine (HFY.out _ _ _ C21.out HY21.out).mono ?_; rintro e w23 ⟨rfl, l23⟩; have C23 := Lib.hid (C21.out.trans (l23.mono C21.out.size)); clear l23; refine Hid.out ?_)
              refine Lib.hid ?_
              go_wp2
              go_ret
              exact ⟨rfl, HW.out _ C23.out⟩
  · have hn' : (1048576 : Int) < (n : Int) := by omega
    have hd' : decide (1048576 < (n : Int)) = true := by simpa using hn'
    clear hb hlt hT hm
    go_enter Tryz.func3, Tryz.ntmps3
    go_wp2_with (go_at_call 5; refine (big_any _ _ _ _).mono ?_; rintro e w' ⟨rfl, hw⟩; have hw2 := hw.symm; subst hw2; clear hw; rw [hd'])
    go_ret
    exact ⟨rfl, Below.refl _ _⟩

end Go.Proofs.YtaoimkjcaienbaaGreatDoor.tt
