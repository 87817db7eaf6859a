import Derived.Test.YtjjndaiojilhiaaDoorNBJ
namespace Go.Proofs.YtjjndaiojilhiaaDoor.tt
open Go.ChangeShapes Go.WideShapes Go.ChangeAt Go.RowKit Go.Deep
set_option linter.unusedVariables false
set_option linter.unusedSimpArgs false

/-! ### impl.Below -/

theorem dir_fnd {E : Nat → En} {n : Nat} {q : List UInt8} (hA : Asc E n) (h : Dir E n q) : 0 ≤ fnd E n q := by
  obtain ⟨j, hj, hp, _⟩ := h
  unfold fnd
  rw [chd_yes hA hj hp]
  omega
theorem bl_found {E : Nat → En} {n j : Nat} {q : List UInt8} (ht : treeB E n = true) (hj : j < n) (hp : pth E j = q) : blN E n q = (unL E q n).length := by
  unfold blN
  by_cases hk : (E j).kind = 1
  · rw [if_pos ⟨ht, dirB_yes ⟨j, hj, hp, hk⟩⟩]
  · rw [← hp, un_leaf (treeB_is ht).2 hj hk]
    split <;> rfl

/-- What the loop leaves: all below, and the row of numbers. -/
def BW (w w1 w3 : World) (g : Nat) (W : World) : Prop := Below w.heap.size w W ∧ W.heap[g]? = w3.heap[g]? ∧ w1.heap.size ≤ W.heap.size
theorem own_ne {W : World} {base g k : Nat} {v : Value} {xs : List Value} {cur : Array Value} {fr : Nat × Nat} (h : W.ownsRow base 38 4 v k xs) (hg : W.heap[g]? = some (.cells cur 3 fr)) : some g ≠ v.ownBlock := by
  intro e
  rcases h.2 with ⟨rfl, _⟩ | ⟨g', cap, cur', rfl, _, hb, _⟩
  · simp [Value.ownBlock] at e
  · obtain rfl : g = g' := by simpa [Value.ownBlock] using e
    rw [hg] at hb
    have := (Obj.cells.inj (Option.some.inj hb)).2.1
    revert this
    decide
theorem sel_smS {E : Nat → En} {n c : Nat} (hS : SmE n E) (U : List Nat) (hU : ∀ x ∈ U, x < n) : SmE U.length (selS E c U) := fun k hk => by
  have hm : U.getD k 0 ∈ U := by rw [List.getD_eq_getElem?_getD, List.getElem?_eq_getElem hk]; exact List.getElem_mem hk
  have h := hS _ (hU _ hm)
  refine ⟨?_, h.2⟩
  show ((E (U.getD k 0)).path.extract c (E (U.getD k 0)).path.size).size ≤ _
  rw [ByteArray.size_extract]
  omega

set_option maxHeartbeats 8000000 in
set_option maxRecDepth 100000 in
theorem ibel_any (E : Nat → En) (b o n cap : Nat) (q : ByteArray) (hq : q.size ≤ 1048576) (w : World) (hR : EnR w b o n E) (hS : SmE n E) (hn : n ≤ 1048576) (hm : ML w) (hC : AtC E) :
    Calls Tryd.prog 13 #[.slice (some ⟨b, o, none⟩) n cap, .string q] w fun r w' => (∃ v, r = .returned v ∧ RowE w.heap.size w' v (blN E n q.data.toList) (blF E n q.data.toList)) ∧ Below w.heap.size w w' := by
  have HB : Hid (Calls Tryd.prog 20 #[.slice (some ⟨b, o, none⟩) n cap, .string q] w fun e w' => ((treeB E n = false ∧ e = .returned (.tuple #[.pointer none, .bool false])) ∨ treeB E n = true ∧ ∃ rb B M, BrA w w' E n rb (rb + 1) B M ∧ e = .returned (.tuple #[ptr (chd E B n q.data.toList), .bool true])) ∧ Below w.heap.size w w') := branchAt_any E b o n cap q hq w hR hS hn hm hC
  have HR : Hid (∀ W, Below w.heap.size w W → EnR W b o n E) := fun W hW => hR.below hW
  have HS : Hid (SmE n E) := hS
  clear hR hS hm hC
  go_enter Tryd.func13, Tryd.ntmps13
  go_wp2_with (go_at_call 20; refine HB.out.mono ?_; rintro e w1 ⟨h, hb⟩; rcases h with ⟨ht, rfl⟩ | ⟨ht, rb, B, M, hX, rfl⟩; rotate_left; rcases chd_id (B := B) (p := q.data.toList) hX.tr.asc with ⟨hc, hf⟩ | ⟨j, hj, hc, hf⟩; all_goals refine Hid.out ?_)
  · refine Lib.hid ?_
    have HE : Hid (blN E n q.data.toList = 0) := by show _ = _; unfold blN; rw [if_neg (fun h => by have := dir_fnd hX.tr.asc (dirB_iff.1 h.2); omega)]
    clear hc hf hX ht
    unfold ptr
    go_wp2
    go_ret
    rw [HE.out]
    exact ⟨⟨_, rfl, rowE_mono (row0 _ w1) hb.size⟩, hb.alloc hb.size _⟩
  · refine Lib.hid ?_
    have h0 : 0 ≤ fnd E n q.data.toList := by omega
    obtain ⟨j', hj', hjp, hfj⟩ := fnd_at h0
    obtain rfl : j' = j := by omega
    have HE : Hid (blN E n q.data.toList = (unL E q.data.toList n).length) := bl_found ht hj hjp
    have HSUB : Hid (subL E n j' = j' :: unL E q.data.toList n) := by rw [← hjp]; exact sub_cons hX.tr.asc hj
    have HSB : Hid (∀ v, nb.SeqO Tryd.prog 36 #[.pointer (some ⟨w1.heap.size + 1, 0, none⟩)] w1.heap.size (fun xs => xs.Perm (nb.ints (subL E n j'))) (subL E n j').length (((w1.alloc (.cells #[] 38)).alloc (.cells #[.pointer (some ⟨B j', 0, none⟩)] 40)).alloc (.cells #[v] 43))) := fun v =>
      nb.num_seq hX.tr hX.br (n - j') j' hj (Nat.le_refl _) (w1.heap.size + 1) _ ((((Below.refl _ w1).alloc (Nat.le_refl _) _).alloc (by simp) _).alloc (by simp; omega) _) ((Below.heap_alloc _ _ _ (by simp)).trans (by have := World.alloc_heap_new (w1.alloc (.cells #[] 38)) (.cells #[.pointer (some ⟨B j', 0, none⟩)] 40); rwa [World.size_alloc] at this))
    have HSO : Hid (Calls Tryd.prog 22 #[.func (.func 36) #[] #[.pointer (some ⟨w1.heap.size + 1, 0, none⟩)]] ((w1.alloc (.cells #[] 38)).alloc (.cells #[.pointer (some ⟨B j', 0, none⟩)] 40)) fun e w' => ∃ v, e = .returned v ∧ w'.ownsRow (w1.heap.size + 2) 3 1 v (subL E n j').length (nb.iVs (nb.ints (subL E n j'))) ∧ Below (w1.heap.size + 2) ((w1.alloc (.cells #[] 38)).alloc (.cells #[.pointer (some ⟨B j', 0, none⟩)] 40)) w') := by
      have := nb.sorted_any (sub_asc j') (List.length_pos_of_mem (mem_sub.2 ⟨hj, .inl rfl⟩)) (enters_of Tryd.func36 (by kernel_rfl) rfl) ((w1.alloc (.cells #[] 38)).alloc (.cells #[.pointer (some ⟨B j', 0, none⟩)] 40)) (n0 := w1.heap.size) (by simp; omega) (by have := sub_le E n j'; omega) HSB.out
      rw [World.size_alloc, World.size_alloc] at this
      exact this
    have HO0 : Hid (∀ W, Below (w1.heap.size + 1) (w1.alloc (.cells #[] 38)) W → W.ownsRow w1.heap.size 38 4 (.slice (some ⟨w1.heap.size, 0, none⟩) 0 0) 0 []) := fun W hW => own_below (made_own w1 0 (by omega) #[] rfl) (by rw [World.size_alloc]; exact hW)
    clear hc hf hX ht h0
    unfold ptr
    go_wp2_with (first
      | (go_at_call 23; refine (nb.inum_any _ _).mono ?_; rintro e w2 ⟨rfl, rfl⟩)
      | (go_at_call 22; refine HSO.out.mono ?_; rintro e w3 ⟨v3, rfl, hrow3, hl3⟩; refine Hid.out ?_))
    refine Lib.hid ?_
    obtain ⟨U, hU⟩ : ∃ U, unL E q.data.toList n = U := ⟨_, rfl⟩
    have HU : Hid (unL E q.data.toList n = U) := hU
    rw [hU] at HSUB HE
    have HUM : Hid (∀ x ∈ U, x < n ∧ Und (pth E x) q.data.toList) := fun x hx => by rw [← hU] at hx; exact mem_un.1 hx
    rw [HSUB.out] at hrow3
    obtain ⟨m, hmm⟩ : ∃ m, U.length = m := ⟨_, rfl⟩
    have HMM : Hid (U.length = m) := hmm
    have hmn : m ≤ n := by have := unL_le E q.data.toList n; rw [hU] at this; omega
    rw [List.length_cons, hmm] at hrow3
    clear hU hmm
    obtain ⟨g, cp, rfl, hcp⟩ : ∃ g cp, v3 = .slice (some ⟨g, 0, none⟩) (m + 1) cp ∧ m + 1 ≤ cp := by
      rcases hrow3.2 with ⟨_, h0⟩ | ⟨g', cap', cur, hv, _, _, hle, _⟩
      · omega
      · exact ⟨g', cap', hv, hle⟩
    obtain ⟨cu, hgb⟩ : ∃ cu, w3.heap[g]? = some (.cells cu 3 (0, 0)) := by
      rcases hrow3.2 with ⟨h0, _⟩ | ⟨g', cap', cur, hv, _, hgb, _⟩
      · cases h0
      · cases hv; exact ⟨_, hgb⟩
    have hb3 : Below w1.heap.size w1 w3 := (((Below.refl _ w1).alloc (Nat.le_refl _) _).alloc (by simp) _).trans (hl3.mono (by omega))
    have HBW3 : Hid (Below w.heap.size w w3) := hb.trans (hb3.mono hb.size)
    have hg3 : g < w3.heap.size := (hrow3.lt g rfl).2
    have HG3X : Hid (∀ W, BW w w1 w3 g W → ∀ (k x : Nat), U[k]? = some x → W.cell? ⟨g, 1 + k, none⟩ = some (.int .i64 (x : Int))) := fun W hW k x hx => by
      have h1 := own_cell hrow3 (k := 1 + k) (x := (x : Int)) (by unfold nb.ints; rw [List.getElem?_map, Nat.add_comm, List.getElem?_cons_succ, hx]; rfl)
      exact (World.cell?_of_block (a := ⟨g, 1 + k, none⟩) hW.2.1).trans h1
    have HUPX : Hid (∀ W, BW w w1 w3 g W → Below w.heap.size w W) := fun W h => h.1
    have HBWS : Hid (∀ W, BW w w1 w3 g W → w1.heap.size ≤ W.heap.size) := fun W h => h.2.2
    have HBWA : Hid (∀ W, BW w w1 w3 g W → ∀ ob, BW w w1 w3 g (W.alloc ob)) := fun W h ob => ⟨h.1.alloc h.1.size ob, (Below.heap_alloc W ob g (by have := h.2.1.trans hgb; exact (Array.getElem?_eq_some_iff.1 this).1)).trans h.2.1, by have := h.2.2; simp; omega⟩
    have HBWG : Hid (∀ W W' v k xs, BW w w1 w3 g W → W.ownsRow w1.heap.size 38 4 v k xs → W.grownBy W' v.ownBlock → BW w w1 w3 g W') := fun W W' v k xs h ho hg => ⟨h.1.grown hg h.1.size (fun k hk => Nat.le_trans hb.size (ho.lt k hk).1), (hg.block g (Array.getElem?_eq_some_iff.1 (h.2.1.trans hgb)).1 (own_ne ho (h.2.1.trans hgb))).trans h.2.1, Nat.le_trans h.2.2 hg.size⟩
    have hbwx0 : BW w w1 w3 g w3 := ⟨HBW3.out, rfl, hb3.size⟩
    have HO03 : Hid (w3.ownsRow w1.heap.size 38 4 (.slice (some ⟨w1.heap.size, 0, none⟩) 0 0) 0 []) := HO0.out w3 (((Below.refl _ (w1.alloc (.cells #[] 38))).alloc (by simp) _).trans (hl3.mono (by omega)))
    obtain ⟨F, hF⟩ : ∃ F : List Nat → Nat → En, F = selS E (q.size + 1) := ⟨_, rfl⟩
    have HFB : Hid (blF E n q.data.toList = F U) := by show _ = _; rw [hF, ← HU.out]; unfold blF; simp
    have HFS : Hid (∀ L i, enC (F (L ++ [i])) (L.length + 1) = enC (F L) L.length ++ [.string ((E i).path.extract (q.size + 1) (E i).path.size), .int .i64 (E i).kind, .string (E i).data, .bool (E i).exec]) := by rw [hF]; exact fun L i => selS_snoc E _ L i
    have HSF : Hid (SmE m (F U)) := by have h := sel_smS (c := q.size + 1) HS.out U (fun x hx => (HUM.out x hx).1); rw [HMM.out] at h; rw [hF]; exact h
    clear hl3 hrow3 hb3 hj' hF hgb
    go_wp2
    · have hm0 : m ≤ 0 := by omega
      have HO3 : Hid (w3.ownsRow w1.heap.size 38 4 (.slice (some ⟨w1.heap.size, 0, none⟩) 0 0) 0 (enC (F (U.take 0)) 0)) := HO03.out
      go_loopw [7, 26] (fun v x wr => ∃ i : Nat, i ≤ m ∧ x = .int .i64 (i : Int) ∧ wr.ownsRow w1.heap.size 38 4 v i (enC (F (U.take i)) i) ∧ v ≠ .slice none 0 0 ∧ BW w w1 w3 g wr) (fun _ x _ => m - (intOf x).toNat)
      case atStart => exact ⟨0, Nat.zero_le _, rfl, HO3.out, (by intro e; cases e), hbwx0⟩
      case round =>
        obtain ⟨i, hi, rfl, hown, hvn, hbel⟩ := hrel
        obtain ⟨at7, cp7, hv7⟩ := own_shape hown
        subst hv7
        have HOW : Hid (wr.ownsRow w1.heap.size 38 4 (.slice at7 i cp7) i (enC (F (U.take i)) i)) := hown
        have HNN : Hid (Value.slice at7 i cp7 ≠ .slice none 0 0) := hvn
        have HBE : Hid (BW w w1 w3 g wr) := hbel
        clear hown hvn hbel
        by_cases hin : i < m
        · exact absurd hin (by omega)
        · have hin' : ¬ (i : Int) < (m : Int) := by omega
          obtain rfl : i = m := by omega
          have htk : U.take i = U := List.take_of_length_le (by rw [HMM.out]; exact Nat.le_refl _)
          have HR7 : Hid (RowE w1.heap.size wr (.slice at7 i cp7) i (F U)) := by have h := own_rowE HOW.out HNN.out; rw [htk] at h; exact h
          obtain ⟨g7, cap7, f7, hv7, hg7, _, _, _, he7⟩ := HR7.out
          cases hv7
          have HSL2 : Hid (Calls Tryd.prog 21 #[.slice (some ⟨g7, 0, none⟩) i cp7] wr fun e w' => (∃ v, e = .returned v ∧ w'.ownsRow wr.heap.size 38 4 v i (enC (F U) i) ∧ v ≠ .slice none 0 0) ∧ Below wr.heap.size wr w') := cloned_any _ g7 0 i cp7 wr he7 HSF.out (by omega)
          clear he7
          go_wp2_with (go_at_call 21; refine HSL2.out.mono ?_; rintro e w9 ⟨⟨v9, rfl, hown9, hv9⟩, hl9⟩; have HR9 : Hid (RowE wr.heap.size w9 v9 i (F U)) := own_rowE hown9 hv9; clear hown9 hv9)
          go_ret
          have hbw := HUPX.out _ HBE.out
          rw [HE.out, HFB.out, HMM.out]
          exact ⟨⟨_, rfl, rowE_mono HR9.out hbw.size⟩, hbw.trans (hl9.mono hbw.size)⟩
    · have HO3 : Hid (w3.ownsRow w1.heap.size 38 4 (.slice (some ⟨w1.heap.size, 0, none⟩) 0 0) 0 (enC (F (U.take 0)) 0)) := HO03.out
      go_loopw [7, 26] (fun v x wr => ∃ i : Nat, i ≤ m ∧ x = .int .i64 (i : Int) ∧ wr.ownsRow w1.heap.size 38 4 v i (enC (F (U.take i)) i) ∧ v ≠ .slice none 0 0 ∧ BW w w1 w3 g wr) (fun _ x _ => m - (intOf x).toNat)
      case atStart => exact ⟨0, Nat.zero_le _, rfl, HO3.out, (by intro e; cases e), hbwx0⟩
      case round =>
        obtain ⟨i, hi, rfl, hown, hvn, hbel⟩ := hrel
        obtain ⟨at7, cp7, hv7⟩ := own_shape hown
        subst hv7
        have HOW : Hid (wr.ownsRow w1.heap.size 38 4 (.slice at7 i cp7) i (enC (F (U.take i)) i)) := hown
        have HNN : Hid (Value.slice at7 i cp7 ≠ .slice none 0 0) := hvn
        have HBE : Hid (BW w w1 w3 g wr) := hbel
        clear hown hvn hbel
        by_cases hin : i < m
        · have hin' : (i : Int) < (m : Int) := by omega
          have hi0 : (0 : Int) ≤ (i : Int) := by omega
          obtain ⟨x, hx⟩ : ∃ x, U[i]? = some x := ⟨_, List.getElem?_eq_getElem (by rw [HMM.out]; exact hin)⟩
          obtain ⟨hxn, hxu⟩ := HUM.out x (List.mem_of_getElem? hx)
          have hgc := HG3X.out _ HBE.out i x hx
          have hx0 : (0 : Int) ≤ (x : Int) := by omega
          have hxn' : (x : Int) < (n : Int) := by omega
          obtain ⟨c0, c1, c2, c3⟩ := HR.out _ (HUPX.out _ HBE.out) x hxn
          have HTK : Hid (U.take (i + 1) = U.take i ++ [x]) := by show _ = _; rw [List.take_add_one, hx]; rfl
          have htl : (U.take i).length = i := by rw [List.length_take, HMM.out]; omega
          have HSN : Hid (enC (F (U.take i ++ [x])) (i + 1) = enC (F (U.take i)) i ++ [.string ((E x).path.extract (q.size + 1) (E x).path.size), .int .i64 (E x).kind, .string (E x).data, .bool (E x).exec]) := by have h := HFS.out (U.take i) x; rw [htl] at h; exact h
          have hsz : q.size + 1 ≤ (E x).path.size := by
            have h := (und_at hxu).2.2
            unfold pth at h
            simp at h
            omega
          have hsm := (HS.out x hxn).1
          obtain ⟨e1, he1⟩ : ∃ e1, E x = e1 := ⟨_, rfl⟩
          rw [he1] at c0 c1 c2 c3 HSN hsz hsm
          clear he1 hx hxu htl
          obtain ⟨Q, kM, dM, xM⟩ := e1
          simp only at c0 c1 c2 c3 HSN hsz hsm
          have hq1 : (q ++ ⟨#[47]⟩ : ByteArray).size = q.size + 1 := by rw [ByteArray.size_append]; rfl
          have hsz1 : (q.size : Int) + 1 ≤ (Q.size : Int) := by omega
          have hsz0 : (0 : Int) ≤ (q.size : Int) + 1 := by omega
          have HOA : Hid (∀ ob ob2, ((wr.alloc ob).alloc ob2).ownsRow w1.heap.size 38 4 (.slice at7 i cp7) i (enC (F (U.take i)) i)) := fun ob ob2 => own_below HOW.out (((Below.refl _ _).alloc (Nat.le_refl _) _).alloc (by simp) _)
          have HBA : Hid (∀ ob ob2, BW w w1 w3 g ((wr.alloc ob).alloc ob2)) := fun ob ob2 => HBWA.out _ (HBWA.out _ HBE.out ob) ob2
          have HSA : Hid (∀ ob ob2, w1.heap.size ≤ ((wr.alloc ob).alloc ob2).heap.size) := fun ob ob2 => HBWS.out _ (HBA.out ob ob2)
          have HCW : Hid (i ≤ 2000000) := by show _ ≤ _; omega
          clear hsz hsm
          go_wp2_with (first
            | (at_builtin; refine app_ent _ rfl _ _ rfl w1.heap.size _ _ _ rfl (HOA.out _ _) HNN.out ⟨wr.heap.size + 1, 0, none⟩ 1 (.string (Q.extract (q.size + 1) Q.size)) (.int .i64 kM) (.string dM) (.bool xM) rfl (four_at _ _ (by simp) _ _ _ _ _) (four_one _ kM dM xM) HCW.out (HSA.out _ _) ?_; intro v6 w6 hownw6 hvw6 hgw6; refine Hid.out ?_)
            | go_in)
          refine Lib.hid ?_
          have HB6 : Hid (BW w w1 w3 g w6) := HBWG.out _ _ _ _ _ (HBA.out _ _) (HOA.out _ _) hgw6
          have HO6 : Hid (w6.ownsRow w1.heap.size 38 4 v6 (i + 1) (enC (F (U.take i ++ [x])) (i + 1))) := by rw [HSN.out]; exact hownw6
          have HV6 : Hid (v6 ≠ .slice none 0 0) := hvw6
          clear hownw6 hvw6 hgw6 c0 c1 c2 c3 hgc
          go_wp2
          go_roundw
          case rel => exact ⟨i + 1, by omega, by go_num, by rw [HTK.out]; exact HO6.out, HV6.out, HB6.out⟩
          case measure => simp [intOf] <;> omega
        · have hin' : ¬ (i : Int) < (m : Int) := by omega
          obtain rfl : i = m := by omega
          have htk : U.take i = U := List.take_of_length_le (by rw [HMM.out]; exact Nat.le_refl _)
          have HR7 : Hid (RowE w1.heap.size wr (.slice at7 i cp7) i (F U)) := by have h := own_rowE HOW.out HNN.out; rw [htk] at h; exact h
          obtain ⟨g7, cap7, f7, hv7, hg7, _, _, _, he7⟩ := HR7.out
          cases hv7
          have HSL2 : Hid (Calls Tryd.prog 21 #[.slice (some ⟨g7, 0, none⟩) i cp7] wr fun e w' => (∃ v, e = .returned v ∧ w'.ownsRow wr.heap.size 38 4 v i (enC (F U) i) ∧ v ≠ .slice none 0 0) ∧ Below wr.heap.size wr w') := cloned_any _ g7 0 i cp7 wr he7 HSF.out (by omega)
          clear he7
          go_wp2_with (go_at_call 21; refine HSL2.out.mono ?_; rintro e w9 ⟨⟨v9, rfl, hown9, hv9⟩, hl9⟩; have HR9 : Hid (RowE wr.heap.size w9 v9 i (F U)) := own_rowE hown9 hv9; clear hown9 hv9)
          go_ret
          have hbw := HUPX.out _ HBE.out
          rw [HE.out, HFB.out, HMM.out]
          exact ⟨⟨_, rfl, rowE_mono HR9.out hbw.size⟩, hbw.trans (hl9.mono hbw.size)⟩
  · refine Lib.hid ?_
    have HE : Hid (blN E n q.data.toList = 0) := by show _ = _; unfold blN; rw [if_neg (by rw [ht]; simp)]
    clear ht
    go_wp2
    go_ret
    rw [HE.out]
    exact ⟨⟨_, rfl, rowE_mono (row0 _ w1) hb.size⟩, hb.alloc hb.size _⟩

end Go.Proofs.YtjjndaiojilhiaaDoor.tt
