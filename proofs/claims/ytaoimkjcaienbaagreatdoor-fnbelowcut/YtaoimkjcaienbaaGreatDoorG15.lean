import Derived.Test.YtaoimkjcaienbaaGreatDoorG14
namespace Go.Proofs.YtaoimkjcaienbaaGreatDoor.tt
open Go.ChangeShapes Go.WideShapes Go.ChangeAt Go.RowKit Go.Deep
set_option linter.unusedVariables false
set_option linter.unusedSimpArgs false

/-! ### CutEntry: what both answer; the specification whole -/

/-- Whether something goes. -/
noncomputable def cuB (E : Nat → En) (n : Nat) (q : List UInt8) : Bool := treeB E n && decide (0 ≤ fnd E n q)
noncomputable def cuN (E : Nat → En) (n : Nat) (q : List UInt8) : Nat := if treeB E n = true then (if 0 ≤ fnd E n q then (stL E q n).length else n) else 0
noncomputable def cuF (E : Nat → En) (n : Nat) (q : List UInt8) : Nat → En := if 0 ≤ fnd E n q then selE E (stL E q n) else E
theorem fnd_at {E : Nat → En} {n : Nat} {q : List UInt8} (h : 0 ≤ fnd E n q) : ∃ j, j < n ∧ pth E j = q ∧ fnd E n q = (j : Int) := by
  unfold fnd at h ⊢
  rcases chd_cases E (fun j => j) n q with ⟨j, hj, hp, e⟩ | ⟨_, e⟩
  · exact ⟨j, hj, hp, by rw [e]; omega⟩
  · rw [e] at h; omega
theorem cuN_le (E : Nat → En) (n : Nat) (q : List UInt8) : cuN E n q ≤ n := by
  have := stL_le E q n
  unfold cuN
  split
  · split <;> omega
  · omega
theorem row0 (E : Nat → En) (w : World) : RowE w.heap.size (w.alloc (.cells #[] 29)) (.slice (some ⟨w.heap.size, 0, none⟩) 0 0) 0 E := own_rowE (made_own w 0 (by omega) #[] rfl) (by intro e; cases e)

set_option maxRecDepth 100000 in
theorem scut_any (E : Nat → En) (b n cap : Nat) (q : ByteArray) (w : World) (hR : EnR w b 0 n E) (hS : SmE n E) (hn : n ≤ 1048576) (hq : q.size ≤ 1048576) (hcap : n ≤ cap) (hcl : cap ≤ maxLen) :
    Calls Tryz.prog 23 #[.slice (some ⟨b, 0, none⟩) n cap, .string q] w fun r w' => (∃ v, r = .returned (.tuple #[v, .bool (cuB E n q.data.toList)]) ∧ RowE w.heap.size w' v (cuN E n q.data.toList) (cuF E n q.data.toList)) ∧ Below w.heap.size w w' := by
  have HT : Hid (∀ W, Below w.heap.size w W → Calls Tryz.prog 9 #[.slice (some ⟨b, 0, none⟩) n cap] W fun e w' => e = .returned (.bool (treeB E n)) ∧ Below W.heap.size W w') := fun W hb => stree_any E b 0 n cap W (hR.below hb) hS hn hcap hcl
  have HF : Hid (∀ W, Below w.heap.size w W → Asc E n → Calls Tryz.prog 58 #[.slice (some ⟨b, 0, none⟩) n cap, .string q] W fun e w' => (∃ r : Int, e = .returned (.int .i64 r) ∧ Fnd E n q.data.toList r) ∧ Below W.heap.size W w') := fun W hb hA => find_any E b 0 n cap q W (hR.below hb) hA hn hcap
  have HCC : Hid (∀ W, Below w.heap.size w W → Calls Tryz.prog 59 #[.slice (some ⟨b, 0, none⟩) n cap] W fun e w' => (∃ v, e = .returned v ∧ w'.ownsRow W.heap.size 29 4 v n (enC E n) ∧ v ≠ .slice none 0 0) ∧ Below W.heap.size W w') := fun W hW => copy_any E b 0 n cap W (hR.below hW) hn
  have HCU : Hid (∀ W j, Below w.heap.size w W → n ≤ 500 → j < n → pth E j = q.data.toList → Calls Tryz.prog 60 #[.slice (some ⟨b, 0, none⟩) n cap, .string q] W fun r w' => (∃ v, r = .returned (.tuple #[v, .bool true]) ∧ RowE W.heap.size w' v (stL E q.data.toList n).length (selE E (stL E q.data.toList n))) ∧ Below W.heap.size W w') := fun W j hW h5 hj hp => sl10cut_any E b n cap j q W (hR.below hW) hS h5 hq hj hp
  clear hR hS
  cases ht : treeB E n with
  | false =>
    rw [ht] at HT
    have HE : Hid (cuB E n q.data.toList = false ∧ cuN E n q.data.toList = 0) := ⟨by unfold cuB; rw [ht]; rfl, by unfold cuN; rw [if_neg (by rw [ht]; simp)]⟩
    clear ht
    go_enter Tryz.func23, Tryz.ntmps23
    go_wp2_with (go_at_call 9; refine (HT.out _ (Below.refl _ _)).mono ?_; rintro e w1 ⟨rfl, hl1⟩)
    go_ret2
    rw [HE.out.1, HE.out.2]
    exact ⟨⟨_, rfl, rowE_mono (row0 _ w1) hl1.size⟩, hl1.alloc hl1.size _⟩
  | true =>
    rw [ht] at HT
    obtain ⟨hn5, hTr⟩ := treeB_is ht
    have HA : Hid (Asc E n) := hTr.asc
    by_cases h0 : 0 ≤ fnd E n q.data.toList
    · obtain ⟨j, hj, hjp, hfj⟩ := fnd_at h0
      have HE : Hid (cuB E n q.data.toList = true ∧ cuN E n q.data.toList = (stL E q.data.toList n).length ∧ cuF E n q.data.toList = selE E (stL E q.data.toList n)) := ⟨by unfold cuB; rw [ht, decide_eq_true h0]; rfl, by unfold cuN; rw [if_pos ht, if_pos h0], by unfold cuF; rw [if_pos h0]⟩
      have HCU2 : Hid (∀ W, Below w.heap.size w W → Calls Tryz.prog 60 #[.slice (some ⟨b, 0, none⟩) n cap, .string q] W fun r w' => (∃ v, r = .returned (.tuple #[v, .bool true]) ∧ RowE W.heap.size w' v (stL E q.data.toList n).length (selE E (stL E q.data.toList n))) ∧ Below W.heap.size W w') := fun W hW => HCU.out W j hW hn5 hj hjp
      have hjn : ¬ (j : Int) < 0 := by omega
      clear ht hTr HCU h0 hjp
      go_enter Tryz.func23, Tryz.ntmps23
      go_wp2_with (first
        | (go_at_call 9; refine (HT.out _ (Below.refl _ _)).mono ?_; rintro e w1 ⟨rfl, hl1⟩)
        | (go_at_call 58; refine (HF.out _ hl1 HA.out).mono ?_; rintro e w2 ⟨⟨r, rfl, hr⟩, hl2⟩; obtain rfl := (fnd_of HA.out hr).trans hfj; have hb2 := hl1.trans (hl2.mono hl1.size))
        | (go_at_call 60; refine (HCU2.out _ hb2).mono ?_; rintro e w3 ⟨⟨v, rfl, hv⟩, hl3⟩))
      go_ret2
      rw [HE.out.1, HE.out.2.1, HE.out.2.2]
      exact ⟨⟨_, rfl, rowE_mono hv hb2.size⟩, hb2.trans (hl3.mono hb2.size)⟩
    · have HE : Hid (cuB E n q.data.toList = false ∧ cuN E n q.data.toList = n ∧ cuF E n q.data.toList = E) := ⟨by unfold cuB; rw [ht, decide_eq_false h0]; rfl, by unfold cuN; rw [if_pos ht, if_neg h0], by unfold cuF; rw [if_neg h0]⟩
      have hfn : fnd E n q.data.toList < 0 := by omega
      clear ht hTr HCU h0
      obtain ⟨F, hF⟩ : ∃ F, fnd E n q.data.toList = F := ⟨_, rfl⟩
      have HFE : Hid (fnd E n q.data.toList = F) := hF
      rw [hF] at hfn
      clear hF
      go_enter Tryz.func23, Tryz.ntmps23
      go_wp2_with (first
        | (go_at_call 9; refine (HT.out _ (Below.refl _ _)).mono ?_; rintro e w1 ⟨rfl, hl1⟩)
        | (go_at_call 58; refine (HF.out _ hl1 HA.out).mono ?_; rintro e w2 ⟨⟨r, rfl, hr⟩, hl2⟩; have hrF := (fnd_of HA.out hr).trans HFE.out; subst hrF; have hb2 := hl1.trans (hl2.mono hl1.size))
        | (go_at_call 59; refine (HCC.out _ hb2).mono ?_; rintro e w9 ⟨⟨v9, rfl, hown9, hv9⟩, hl9⟩; have HR9 : Hid (RowE w2.heap.size w9 v9 n E) := own_rowE hown9 hv9; clear hown9 hv9))
      go_ret2
      rw [HE.out.1, HE.out.2.1, HE.out.2.2]
      exact ⟨⟨_, rfl, rowE_mono HR9.out hb2.size⟩, hb2.trans (hl9.mono hb2.size)⟩

end Go.Proofs.YtaoimkjcaienbaaGreatDoor.tt

namespace Go.Proofs.YtaoimkjcaienbaaGreatDoor.tt
open Go.ChangeShapes Go.WideShapes Go.ChangeAt Go.RowKit Go.Deep
set_option linter.unusedVariables false
set_option linter.unusedSimpArgs false

/-! ### CutEntry: the program's side, plainly: the numbers that go, one behind the other -/

theorem und_blw {x d : List UInt8} : Und x d ↔ Blw x d := by
  constructor
  · rintro ⟨t, rfl⟩
    exact ⟨t, by simp⟩
  · rintro ⟨r, rfl⟩
    exact ⟨r, by simp⟩
theorem stay_iff {E : Nat → En} {n i j : Nat} {q : List UInt8} (hA : Asc E n) (hi : i < n) (hj : j < n) (hq : pth E j = q) : stayB E q i = true ↔ ¬ InS E j i := by
  unfold stayB InS
  rw [Bool.and_eq_true, Bool.not_eq_true', Bool.not_eq_true', decide_eq_false_iff_not, decide_eq_false_iff_not, und_blw, ← hq, not_or]
  exact and_congr_left fun _ => ⟨fun h e => h (by rw [e]), fun h e => h (asc_one hA hi hj e)⟩
/-- How many have gone. -/
noncomputable def goL (E : Nat → En) (j i : Nat) : List Nat := (List.range i).filter fun k => @decide (InS E j k) (Classical.propDecidable _)
theorem go_all (E : Nat → En) (n j : Nat) : goL E j n = subL E n j := rfl
theorem go_succ (E : Nat → En) (j i : Nat) : (InS E j i → goL E j (i + 1) = goL E j i ++ [i]) ∧ (¬ InS E j i → goL E j (i + 1) = goL E j i) := by
  unfold goL
  rw [List.range_succ, List.filter_append]
  exact ⟨fun h => by rw [List.filter_cons_of_pos (by simpa using h), List.filter_nil], fun h => by rw [List.filter_cons_of_neg (by simpa using h), List.filter_nil, List.append_nil]⟩
theorem go_pre (E : Nat → En) (j : Nat) {i n : Nat} (h : i ≤ n) : goL E j i <+: goL E j n := by
  unfold goL
  obtain ⟨d, rfl⟩ := Nat.le.dest h
  rw [List.range_add, List.filter_append]
  exact List.prefix_append _ _
theorem go_at {E : Nat → En} {j i n : Nat} (hi : i < n) (h : InS E j i) : (subL E n j)[(goL E j i).length]? = some i := by
  obtain ⟨t, ht⟩ := go_pre E j (show i + 1 ≤ n by omega)
  rw [go_all E n j, (go_succ E j i).1 h] at ht
  rw [← ht, List.append_assoc, List.getElem?_append_right (Nat.le_refl _), Nat.sub_self]
  rfl
theorem go_lt {E : Nat → En} {j i n : Nat} (hi : i < n) (h : InS E j i) : (goL E j i).length < (subL E n j).length := (List.getElem?_eq_some_iff.1 (go_at hi h)).1
theorem go_not {E : Nat → En} {j i n x : Nat} (hi : i < n) (h : ¬ InS E j i) (hx : (subL E n j)[(goL E j i).length]? = some x) : x ≠ i := by
  rintro rfl
  exact h (mem_sub.1 (List.mem_of_getElem? hx)).2
theorem sub_le (E : Nat → En) (n j : Nat) : (subL E n j).length ≤ n := by
  have := List.length_filter_le (fun k => @decide (InS E j k) (Classical.propDecidable _)) (List.range n)
  rwa [List.length_range] at this
theorem sel_sm {E : Nat → En} {n : Nat} (hS : SmE n E) (q : List UInt8) : SmE (stL E q n).length (selE E (stL E q n)) := fun k hk => by
  have hm : (stL E q n).getD k 0 ∈ stL E q n := by rw [List.getD_eq_getElem?_getD, List.getElem?_eq_getElem hk]; exact List.getElem_mem hk
  exact hS _ (List.mem_range.1 (List.mem_filter.1 hm).1)

end Go.Proofs.YtaoimkjcaienbaaGreatDoor.tt

namespace Go.Proofs.YtaoimkjcaienbaaGreatDoor.tt
open Go.ChangeShapes Go.WideShapes Go.ChangeAt Go.RowKit Go.Deep
set_option linter.unusedVariables false
set_option linter.unusedSimpArgs false

/-! ### impl.CutEntry -/

theorem own_cell {w : World} {base g n cap : Nat} {l : List Int} (h : w.ownsRow base 3 1 (.slice (some ⟨g, 0, none⟩) n cap) n (nb.iVs l)) {k : Nat} {x : Int} (hx : l[k]? = some x) : w.cell? ⟨g, k, none⟩ = some (.int .i64 x) := by
  rcases h.2 with ⟨h0, _⟩ | ⟨g', cap', cur, hv, hg, hb, _, _, _, ht⟩
  · cases h0
  cases hv
  have hk : k < n := by
    have h1 := (List.getElem?_eq_some_iff.1 hx).1
    have h2 := h.1
    unfold nb.iVs at h2
    rw [List.length_map] at h2
    omega
  have h3 : (cur.toList.take (n * 1))[k]? = (nb.iVs l)[k]? := by rw [ht]
  rw [List.getElem?_take_of_lt (by omega), Array.getElem?_toList] at h3
  simp [World.cell?, hb, h3, nb.iVs, hx]

set_option maxHeartbeats 8000000 in
set_option maxRecDepth 100000 in
theorem icut_any (E : Nat → En) (b o n cap : Nat) (q : ByteArray) (hq : q.size ≤ 1048576) (w : World) (hR : EnR w b o n E) (hS : SmE n E) (hn : n ≤ 1048576) (hm : ML w) (hC : AtC E) :
    Calls Tryz.prog 19 #[.slice (some ⟨b, o, none⟩) n cap, .string q] w fun r w' => (∃ v, r = .returned (.tuple #[v, .bool (cuB E n q.data.toList)]) ∧ RowE w.heap.size w' v (cuN E n q.data.toList) (cuF E n q.data.toList)) ∧ Below w.heap.size w w' := by
  have HB : Hid (Calls Tryz.prog 49 #[.slice (some ⟨b, o, none⟩) n cap, .string q] w fun e w' => ((treeB E n = false ∧ e = .returned (.tuple #[.pointer none, .bool false])) ∨ treeB E n = true ∧ ∃ rb B M, BrA w w' E n rb (rb + 1) B M ∧ e = .returned (.tuple #[ptr (chd E B n q.data.toList), .bool true])) ∧ Below w.heap.size w w') := branchAt_any E b o n cap q hq w hR hS hn hm hC
  have HR : Hid (∀ W, Below w.heap.size w W → EnR W b o n E) := fun W hW => hR.below hW
  have HCL : Hid (∀ W, Below w.heap.size w W → Calls Tryz.prog 51 #[.slice (some ⟨b, o, none⟩) n cap] W fun e w' => (∃ v, e = .returned v ∧ w'.ownsRow W.heap.size 29 4 v n (enC E n) ∧ v ≠ .slice none 0 0) ∧ Below W.heap.size W w') := fun W hW => cloned_any E b o n cap W (hR.below hW) hS hn
  have HSL : Hid (∀ g c W, EnR W g 0 (stL E q.data.toList n).length (selE E (stL E q.data.toList n)) → Calls Tryz.prog 51 #[.slice (some ⟨g, 0, none⟩) (stL E q.data.toList n).length c] W fun e w' => (∃ v, e = .returned v ∧ w'.ownsRow W.heap.size 29 4 v (stL E q.data.toList n).length (enC (selE E (stL E q.data.toList n)) (stL E q.data.toList n).length) ∧ v ≠ .slice none 0 0) ∧ Below W.heap.size W w') := fun g c W hW => cloned_any _ g 0 _ c W hW (sel_sm hS _) (by have := stL_le E q.data.toList n; omega)
  clear hR hS hm hC
  go_enter Tryz.func19, Tryz.ntmps19
  go_wp2_with (go_at_call 49; refine HB.out.mono ?_; rintro e w1 ⟨h, hb⟩; rcases h with ⟨ht, rfl⟩ | ⟨ht, rb, B, M, hX, rfl⟩; rotate_left; rcases chd_id (B := B) (p := q.data.toList) hX.tr.asc with ⟨hc, hf⟩ | ⟨j, hj, hc, hf⟩; all_goals refine Hid.out ?_)
  · refine Lib.hid ?_
    have HE : Hid (cuB E n q.data.toList = false ∧ cuN E n q.data.toList = n ∧ cuF E n q.data.toList = E) := ⟨by unfold cuB; rw [ht, decide_eq_false (by omega)]; rfl, by unfold cuN; rw [if_pos ht, if_neg (by omega)], by unfold cuF; rw [if_neg (by omega)]⟩
    clear hc hf hX ht
    unfold ptr
    go_wp2_with (go_at_call 51; refine (HCL.out _ hb).mono ?_; rintro e w9 ⟨⟨v9, rfl, hown9, hv9⟩, hl9⟩; have HR9 : Hid (RowE w1.heap.size w9 v9 n E) := own_rowE hown9 hv9; clear hown9 hv9)
    go_ret2
    rw [HE.out.1, HE.out.2.1, HE.out.2.2]
    exact ⟨⟨_, rfl, rowE_mono HR9.out hb.size⟩, hb.trans (hl9.mono hb.size)⟩
  · refine Lib.hid ?_
    have h0 : 0 ≤ fnd E n q.data.toList := by omega
    obtain ⟨j', hj', hjp, hfj⟩ := fnd_at h0
    obtain rfl : j' = j := by omega
    have HE : Hid (cuB E n q.data.toList = true ∧ cuN E n q.data.toList = (stL E q.data.toList n).length ∧ cuF E n q.data.toList = selE E (stL E q.data.toList n)) := ⟨by unfold cuB; rw [ht, decide_eq_true h0]; rfl, by unfold cuN; rw [if_pos ht, if_pos h0], by unfold cuF; rw [if_pos h0]⟩
    have HX : Hid (BrA w w1 E n rb (rb + 1) B M) := hX
    have HSB : Hid (∀ v, nb.SeqO Tryz.prog 89 #[.pointer (some ⟨w1.heap.size, 0, none⟩)] w1.heap.size (fun xs => xs.Perm (nb.ints (subL E n j'))) (subL E n j').length ((w1.alloc (.cells #[.pointer (some ⟨B j', 0, none⟩)] 77)).alloc (.cells #[v] 86))) := fun v =>
      nb.num_seq hX.tr hX.br (n - j') j' hj (Nat.le_refl _) w1.heap.size _ (((Below.refl _ w1).alloc (Nat.le_refl _) _).alloc (by simp) _) ((Below.heap_alloc _ _ _ (by simp)).trans (World.alloc_heap_new w1 _))
    have HSO : Hid (Calls Tryz.prog 54 #[.func (.func 89) #[] #[.pointer (some ⟨w1.heap.size, 0, none⟩)]] (w1.alloc (.cells #[.pointer (some ⟨B j', 0, none⟩)] 77)) fun e w' => ∃ v, e = .returned v ∧ w'.ownsRow (w1.heap.size + 1) 3 1 v (subL E n j').length (nb.iVs (nb.ints (subL E n j'))) ∧ Below (w1.heap.size + 1) (w1.alloc (.cells #[.pointer (some ⟨B j', 0, none⟩)] 77)) w') := by
      have := nb.sorted_any (sub_asc j') (List.length_pos_of_mem (mem_sub.2 ⟨hj, .inl rfl⟩)) (enters_of Tryz.func89 (by kernel_rfl) rfl) (w1.alloc (.cells #[.pointer (some ⟨B j', 0, none⟩)] 77)) (n0 := w1.heap.size) (by simp) (by have := sub_le E n j'; omega) HSB.out
      rw [World.size_alloc] at this
      exact this
    have HTR : Hid (Tr E n) := hX.tr
    clear hc hf hX ht h0
    unfold ptr
    go_wp2_with (first
      | (go_at_call 55; refine (nb.inum_any _ _).mono ?_; rintro e w2 ⟨rfl, rfl⟩)
      | (go_at_call 54; refine HSO.out.mono ?_; rintro e w3 ⟨v3, rfl, hrow3, hl3⟩; refine Hid.out ?_))
    refine Lib.hid ?_
    obtain ⟨m, hmm⟩ : ∃ m, (subL E n j').length = m := ⟨_, rfl⟩
    have hpos : 0 < m := by rw [← hmm]; exact List.length_pos_of_mem (mem_sub.2 ⟨hj, .inl rfl⟩)
    have HMM : Hid ((subL E n j').length = m) := hmm
    rw [hmm] at hrow3
    obtain ⟨g, cp, rfl, hcp⟩ : ∃ g cp, v3 = .slice (some ⟨g, 0, none⟩) m cp ∧ m ≤ cp := by
      rcases hrow3.2 with ⟨_, h0⟩ | ⟨g', cap', cur, hv, _, _, hle, _⟩
      · omega
      · exact ⟨g', cap', hv, hle⟩
    have hb3 : Below w1.heap.size w1 w3 := ((Below.refl _ w1).alloc (Nat.le_refl _) _).trans (hl3.mono (Nat.le_succ _))
    have HBW3 : Hid (Below w.heap.size w w3) := hb.trans (hb3.mono hb.size)
    have hg3 : g < w3.heap.size := (hrow3.lt g rfl).2
    have HG3 : Hid (∀ W, Below w3.heap.size w3 W → ∀ (k x : Nat), (subL E n j')[k]? = some x → W.cell? ⟨g, k, none⟩ = some (.int .i64 (x : Int))) := fun W hW k x hx => by
      have h1 := own_cell hrow3 (k := k) (x := (x : Int)) (by unfold nb.ints; rw [List.getElem?_map, hx]; rfl)
      exact (hW.cell (p := ⟨g, k, none⟩) hg3).trans h1
    have HUP : Hid (∀ W, Below w3.heap.size w3 W → Below w.heap.size w W) := fun W hW => HBW3.out.trans (hW.mono HBW3.out.size)
    have HO0 : Hid ((w3.alloc (.cells #[] 29)).ownsRow w3.heap.size 29 4 (.slice (some ⟨w3.heap.size, 0, none⟩) 0 0) 0 (enC (selE E (stL E q.data.toList 0)) 0)) := made_own w3 0 (by omega) #[] rfl
    clear hl3 hrow3 hb3 hmm hj'
    go_wp2
    go_loopw [8, 9, 31] (fun gv v x wr => ∃ i l c oo : Nat, i ≤ n ∧ x = .int .i64 (i : Int) ∧ gv = .slice (some ⟨g, oo, none⟩) l c ∧ (0 < l → oo = (goL E j' i).length) ∧ l + (goL E j' i).length = m ∧ l ≤ c ∧ wr.ownsRow w3.heap.size 29 4 v (stL E q.data.toList i).length (enC (selE E (stL E q.data.toList i)) (stL E q.data.toList i).length) ∧ v ≠ .slice none 0 0 ∧ Below w3.heap.size w3 wr) (fun _ _ x _ => n - (intOf x).toNat)
    case atStart => exact ⟨0, m, cp, 0, Nat.zero_le _, rfl, rfl, fun _ => rfl, rfl, hcp, HO0.out, (by intro e; cases e), (Below.refl _ _).alloc (Nat.le_refl _) _⟩
    case round =>
      obtain ⟨i, l, c, oo, hi, rfl, rfl, hoo, hlm, hlc, hown, hvn, hbel⟩ := hrel
      obtain ⟨L, hL⟩ : ∃ L, stL E q.data.toList i = L := ⟨_, rfl⟩
      have HL : Hid (stL E q.data.toList i = L) := hL
      have hLl : L.length ≤ 1048576 := by have := stL_le E q.data.toList i; rw [hL] at this; omega
      rw [hL] at hown
      obtain ⟨at7, cp7, hv7⟩ := own_shape hown
      subst hv7
      obtain ⟨go, hgo⟩ : ∃ go, (goL E j' i).length = go := ⟨_, rfl⟩
      have HGO : Hid ((goL E j' i).length = go) := hgo
      rw [hgo] at hlm hoo
      have HOW : Hid (wr.ownsRow w3.heap.size 29 4 (.slice at7 L.length cp7) L.length (enC (selE E L) L.length)) := hown
      have HNN : Hid (Value.slice at7 L.length cp7 ≠ .slice none 0 0) := hvn
      have HBE : Hid (Below w3.heap.size w3 wr) := hbel
      clear hown hvn hbel hL hgo
      by_cases hin : i < n
      · have hin' : (i : Int) < (n : Int) := by omega
        have hi0 : (0 : Int) ≤ (i : Int) := by omega
        obtain ⟨c0, c1, c2, c3⟩ := HR.out _ (HUP.out _ HBE.out) i hin
        have HSN : Hid (enC (selE E (L ++ [i])) (L.length + 1) = enC (selE E L) L.length ++ [.string (E i).path, .int .i64 (E i).kind, .string (E i).data, .bool (E i).exec]) := sel_snoc E L i
        have HSTH : Hid (stL E q.data.toList (i + 1) = if stayB E q.data.toList i = true then L ++ [i] else L) := by rw [← HL.out]; exact stL_succ E q.data.toList i
        obtain ⟨e1, he1⟩ : ∃ e1, E i = e1 := ⟨_, rfl⟩
        rw [he1] at c0 c1 c2 c3 HSN
        clear he1
        obtain ⟨Pp, kM, dM, xM⟩ := e1
        simp only at c0 c1 c2 c3 HSN
        obtain ⟨ob, hob⟩ : ∃ ob, ob = Obj.cells #[.string Pp, .int .i64 kM, .string dM, .bool xM] 29 (0, 0) := ⟨_, rfl⟩
        have HBQ : Hid (Below w3.heap.size w3 (wr.alloc (.cells #[.string Pp, .int .i64 kM, .string dM, .bool xM] 29))) := HBE.out.alloc HBE.out.size _
        by_cases hin2 : InS E j' i
        · have hl0 : (0 : Int) < (l : Int) := by have := go_lt hin hin2; rw [HMM.out, HGO.out] at this; omega
          have hl1 : (1 : Int) ≤ (l : Int) := by omega
          have hgc := HG3.out _ HBQ.out go i (by have := go_at hin hin2; rwa [HGO.out] at this)
          have HLN : Hid (stL E q.data.toList (i + 1) = L) := by show _ = _; rw [HSTH.out, if_neg (fun h => (stay_iff HTR.out.asc hin hj hjp).1 h hin2)]
          have HGN : Hid ((goL E j' (i + 1)).length = go + 1) := by show _ = _; rw [(go_succ E j' i).1 hin2, List.length_append, HGO.out]; rfl
          obtain rfl : oo = go := hoo (by omega)
          clear hin2 hoo
          go_wp2
          go_roundw
          case rel =>
            refine ⟨i + 1, l - 1, c - 1, if c = 1 then oo else oo + 1, by omega, by go_num, by split <;> rfl, fun h => ?_, by rw [HGN.out]; omega, by omega, by rw [HLN.out]; exact own_below HOW.out ((Below.refl _ _).alloc (Nat.le_refl _) _), HNN.out, HBQ.out⟩
            rw [HGN.out, if_neg (by omega)]
          case measure => simp [intOf] <;> omega
        · have HLN : Hid (stL E q.data.toList (i + 1) = L ++ [i]) := by show _ = _; rw [HSTH.out, if_pos ((stay_iff HTR.out.asc hin hj hjp).2 hin2)]
          have HGN : Hid ((goL E j' (i + 1)).length = go) := by show _ = _; rw [(go_succ E j' i).2 hin2, HGO.out]
          have HOA : Hid (∀ ob ob2, ((wr.alloc ob).alloc ob2).ownsRow w3.heap.size 29 4 (.slice at7 L.length cp7) L.length (enC (selE E L) L.length)) := fun ob ob2 => own_below HOW.out (((Below.refl _ _).alloc (Nat.le_refl _) _).alloc (by simp) _)
          have HBA : Hid (∀ ob ob2, Below w3.heap.size w3 ((wr.alloc ob).alloc ob2)) := fun ob ob2 => (HBE.out.alloc HBE.out.size _).alloc (by have := HBE.out.size; simp; omega) _
          have HSA : Hid (∀ ob ob2, w3.heap.size ≤ ((wr.alloc ob).alloc ob2).heap.size) := fun ob ob2 => (HBA.out ob ob2).size
          have HCW : Hid (L.length ≤ 2000000) := by show _ ≤ _; omega
          have HOO : Hid (0 < l → oo = go) := hoo
          clear hoo
          by_cases hl0 : (0 : Int) < (l : Int)
          · have hgl : go < (subL E n j').length := by rw [HMM.out]; omega
            have hgc := HG3.out _ HBQ.out go _ (List.getElem?_eq_getElem hgl)
            have hne : (subL E n j')[go] ≠ i := go_not hin hin2 (by rw [HGO.out]; exact List.getElem?_eq_getElem hgl)
            obtain ⟨y, hy⟩ : ∃ y, (subL E n j')[go] = y := ⟨_, rfl⟩
            rw [hy] at hgc hne
            have hne2 : ((i : Int) == (y : Int)) = false := by rw [beq_eq_false_iff_ne]; omega
            obtain rfl : oo = go := HOO.out (by omega)
            clear hy hin2 hne
            go_wp2_with (first
              | (at_builtin; refine app_ent _ rfl _ _ rfl w3.heap.size _ _ _ rfl (HOA.out _ _) HNN.out ⟨wr.heap.size + 1, 0, none⟩ 1 (.string Pp) (.int .i64 kM) (.string dM) (.bool xM) rfl (four_at _ _ (by simp) _ _ _ _ _) (four_one Pp kM dM xM) HCW.out (HSA.out _ _) ?_; intro v6 w6 hownw6 hvw6 hgw6; refine Hid.out ?_)
              | go_in)
            refine Lib.hid ?_
            have HB6 : Hid (Below w3.heap.size w3 w6) := (HBA.out _ _).grown hgw6 (HBA.out _ _).size (fun k hk => ((HOA.out (.cells #[.string Pp, .int .i64 kM, .string dM, .bool xM] 29) (.cells #[.string Pp, .int .i64 kM, .string dM, .bool xM] 29)).lt k hk).1)
            have HO6 : Hid (w6.ownsRow w3.heap.size 29 4 v6 (L.length + 1) (enC (selE E (L ++ [i])) (L.length + 1))) := by rw [HSN.out]; exact hownw6
            have HV6 : Hid (v6 ≠ .slice none 0 0) := hvw6
            clear hownw6 hvw6 hgw6 c0 c1 c2 c3
            go_wp2
            go_roundw
            case rel => exact ⟨i + 1, l, c, oo, by omega, by go_num, rfl, fun h => by first | exact HGN.out.symm | (rw [HGN.out]; exact HOO.out h), by rw [HGN.out]; exact hlm, hlc, by rw [HLN.out, List.length_append]; exact HO6.out, HV6.out, HB6.out⟩
            case measure => simp [intOf] <;> omega
          · clear hin2
            go_wp2_with (first
              | (at_builtin; refine app_ent _ rfl _ _ rfl w3.heap.size _ _ _ rfl (HOA.out _ _) HNN.out ⟨wr.heap.size + 1, 0, none⟩ 1 (.string Pp) (.int .i64 kM) (.string dM) (.bool xM) rfl (four_at _ _ (by simp) _ _ _ _ _) (four_one Pp kM dM xM) HCW.out (HSA.out _ _) ?_; intro v6 w6 hownw6 hvw6 hgw6; refine Hid.out ?_)
              | go_in)
            refine Lib.hid ?_
            have HB6 : Hid (Below w3.heap.size w3 w6) := (HBA.out _ _).grown hgw6 (HBA.out _ _).size (fun k hk => ((HOA.out (.cells #[.string Pp, .int .i64 kM, .string dM, .bool xM] 29) (.cells #[.string Pp, .int .i64 kM, .string dM, .bool xM] 29)).lt k hk).1)
            have HO6 : Hid (w6.ownsRow w3.heap.size 29 4 v6 (L.length + 1) (enC (selE E (L ++ [i])) (L.length + 1))) := by rw [HSN.out]; exact hownw6
            have HV6 : Hid (v6 ≠ .slice none 0 0) := hvw6
            clear hownw6 hvw6 hgw6 c0 c1 c2 c3
            go_wp2
            go_roundw
            case rel => exact ⟨i + 1, l, c, oo, by omega, by go_num, rfl, fun h => by first | exact HGN.out.symm | (rw [HGN.out]; exact HOO.out h), by rw [HGN.out]; exact hlm, hlc, by rw [HLN.out, List.length_append]; exact HO6.out, HV6.out, HB6.out⟩
            case measure => simp [intOf] <;> omega
      · have hin' : ¬ (i : Int) < (n : Int) := by omega
        obtain rfl : i = n := by omega
        have HR7 : Hid (RowE w3.heap.size wr (.slice at7 L.length cp7) L.length (selE E L)) := own_rowE HOW.out HNN.out
        rw [HL.out] at HSL
        obtain ⟨g7, cap7, f7, hv7, hg7, _, _, _, he7⟩ := HR7.out
        cases hv7
        have HSL2 : Hid (Calls Tryz.prog 51 #[.slice (some ⟨g7, 0, none⟩) L.length cp7] wr fun e w' => (∃ v, e = .returned v ∧ w'.ownsRow wr.heap.size 29 4 v L.length (enC (selE E L) L.length) ∧ v ≠ .slice none 0 0) ∧ Below wr.heap.size wr w') := HSL.out _ _ _ he7
        clear he7
        go_wp2_with (go_at_call 51; refine HSL2.out.mono ?_; rintro e w9 ⟨⟨v9, rfl, hown9, hv9⟩, hl9⟩; have HR9 : Hid (RowE wr.heap.size w9 v9 L.length (selE E L)) := own_rowE hown9 hv9; clear hown9 hv9)
        go_ret2
        have hbw := HUP.out _ HBE.out
        rw [HE.out.1, HE.out.2.1, HE.out.2.2, HL.out]
        exact ⟨⟨_, rfl, rowE_mono HR9.out hbw.size⟩, hbw.trans (hl9.mono hbw.size)⟩
  · refine Lib.hid ?_
    have HE : Hid (cuB E n q.data.toList = false ∧ cuN E n q.data.toList = 0) := ⟨by unfold cuB; rw [ht]; rfl, by unfold cuN; rw [if_neg (by rw [ht]; simp)]⟩
    clear ht
    go_wp2
    go_ret2
    rw [HE.out.1, HE.out.2]
    exact ⟨⟨_, rfl, rowE_mono (row0 _ w1) hb.size⟩, hb.alloc hb.size _⟩

end Go.Proofs.YtaoimkjcaienbaaGreatDoor.tt

namespace Go.Proofs.YtaoimkjcaienbaaGreatDoor.tt
open Go.ChangeShapes Go.WideShapes Go.ChangeAt Go.RowKit Go.Deep
set_option linter.unusedVariables false
set_option linter.unusedSimpArgs false

/-! ### Below: plainly, and the specification -/

/-- An entry with its path cut short. -/
def shE (c : Nat) (e : En) : En := ⟨e.path.extract c e.path.size, e.kind, e.data, e.exec⟩
def selS (E : Nat → En) (c : Nat) (ks : List Nat) : Nat → En := fun k => shE c (E (ks.getD k 0))
theorem selS_snoc (E : Nat → En) (c : Nat) (ks : List Nat) (i : Nat) : enC (selS E c (ks ++ [i])) (ks.length + 1) = enC (selS E c ks) ks.length ++ [.string ((E i).path.extract c (E i).path.size), .int .i64 (E i).kind, .string (E i).data, .bool (E i).exec] := by
  rw [enC_succ]
  have h1 : selS E c (ks ++ [i]) ks.length = shE c (E i) := by unfold selS; simp
  have h2 : enC (selS E c (ks ++ [i])) ks.length = enC (selS E c ks) ks.length := enC_congr fun k hk => by unfold selS; simp only [List.getD_eq_getElem?_getD]; rw [List.getElem?_append_left hk]
  rw [h1, h2]
  rfl
/-- What stands below. -/
def unL (E : Nat → En) (q : List UInt8) (i : Nat) : List Nat := (List.range i).filter fun k => decide (Und (pth E k) q)
theorem unL_succ (E : Nat → En) (q : List UInt8) (i : Nat) : (Und (pth E i) q → unL E q (i + 1) = unL E q i ++ [i]) ∧ (¬ Und (pth E i) q → unL E q (i + 1) = unL E q i) := by
  unfold unL
  rw [List.range_succ, List.filter_append]
  exact ⟨fun h => by rw [List.filter_cons_of_pos (by simpa using h), List.filter_nil], fun h => by rw [List.filter_cons_of_neg (by simpa using h), List.filter_nil, List.append_nil]⟩
theorem unL_le (E : Nat → En) (q : List UInt8) (i : Nat) : (unL E q i).length ≤ i := by
  have := List.length_filter_le (fun k => decide (Und (pth E k) q)) (List.range i)
  rwa [List.length_range] at this
theorem mem_un {E : Nat → En} {q : List UInt8} {n i : Nat} : i ∈ unL E q n ↔ i < n ∧ Und (pth E i) q := by
  unfold unL
  rw [List.mem_filter, List.mem_range, decide_eq_true_iff]
theorem ext_lt (l : List UInt8) (a : UInt8) (r : List UInt8) : l < l ++ a :: r := by
  induction l with
  | nil => exact List.nil_lt_cons _ _
  | cons b l ih => exact List.cons_lt_cons_iff.2 (.inr ⟨rfl, ih⟩)
theorem blw_gt {E : Nat → En} {n i j : Nat} (hA : Asc E n) (hi : i < n) (hj : j < n) (h : Blw (pth E i) (pth E j)) : j < i := by
  obtain ⟨r, hr⟩ := h
  have hlt : pth E j < pth E i := by rw [hr]; exact ext_lt _ _ _
  rcases Nat.lt_trichotomy j i with h' | h' | h'
  · exact h'
  · subst h'; exact absurd hlt (List.lt_irrefl _)
  · exact absurd (hA i j h' hj) (fun h2 => absurd (List.lt_trans h2 hlt) (List.lt_irrefl _))
/-- The numbers at and below are the entry's, and those below. -/
theorem sub_cons {E : Nat → En} {n j : Nat} (hA : Asc E n) (hj : j < n) : subL E n j = j :: unL E (pth E j) n := by
  have hu : (unL E (pth E j) n).Pairwise (· < ·) := List.Pairwise.sublist List.filter_sublist List.pairwise_lt_range
  have hc : (j :: unL E (pth E j) n).Pairwise (· < ·) := List.pairwise_cons.2 ⟨fun i hi => by
    obtain ⟨h1, h2⟩ := mem_un.1 hi
    exact blw_gt hA h1 hj (und_blw.1 h2), hu⟩
  have hp : (subL E n j).Perm (j :: unL E (pth E j) n) := (List.perm_ext_iff_of_nodup (sub_nodup j) (hc.imp fun h => Nat.ne_of_lt h)).2 fun i => by
    rw [mem_sub, List.mem_cons, mem_un, und_blw]
    unfold InS
    constructor
    · rintro ⟨h1, h2 | h2⟩
      · exact .inl h2
      · exact .inr ⟨h1, h2⟩
    · rintro (rfl | ⟨h1, h2⟩)
      · exact ⟨hj, .inl rfl⟩
      · exact ⟨h1, .inr h2⟩
  exact List.Perm.eq_of_pairwise (le := (· < ·)) (fun a b _ _ h1 h2 => by omega) (sub_asc j) hc hp
theorem un_leaf {E : Nat → En} {n j : Nat} (hT : Tr E n) (hj : j < n) (hk : ¬ (E j).kind = 1) : unL E (pth E j) n = [] := by
  refine List.eq_nil_iff_forall_not_mem.2 fun i hi => ?_
  obtain ⟨h1, h2⟩ := mem_un.1 hi
  obtain ⟨c, hc, _⟩ := blw_kid hT hj i h1 (und_blw.1 h2)
  exact nb.no_kid hT hj hk c hc
noncomputable def blN (E : Nat → En) (n : Nat) (q : List UInt8) : Nat := if treeB E n = true ∧ dirB E n q = true then (unL E q n).length else 0
def blF (E : Nat → En) (n : Nat) (q : List UInt8) : Nat → En := selS E (q.length + 1) (unL E q n)
theorem blN_le (E : Nat → En) (n : Nat) (q : List UInt8) : blN E n q ≤ n := by
  have := unL_le E q n
  unfold blN
  split <;> omega
theorem und_size {M P : ByteArray} (h : Und M.data.toList P.data.toList) : P.size + 1 ≤ M.size := by
  have := (und_at h).2.2
  simp at this; omega

end Go.Proofs.YtaoimkjcaienbaaGreatDoor.tt

namespace Go.Proofs.YtaoimkjcaienbaaGreatDoor.tt
open Go.ChangeShapes Go.WideShapes Go.ChangeAt Go.RowKit Go.Deep
set_option linter.unusedVariables false
set_option linter.unusedSimpArgs false

/-! ### Below: the specification -/

set_option maxHeartbeats 4000000 in
set_option maxRecDepth 100000 in
theorem sl10below_any (E : Nat → En) (b n cap : Nat) (P : ByteArray) (w : World) (hR : EnR w b 0 n E) (hS : SmE n E) (hn : n ≤ 500) (hPs : P.size ≤ 1048576) :
    Calls Tryz.prog 61 #[.slice (some ⟨b, 0, none⟩) n cap, .string P] w fun r w' => (∃ v, r = .returned v ∧ RowE w.heap.size w' v (unL E P.data.toList n).length (blF E n P.data.toList)) ∧ Below w.heap.size w w' := by
  have HR : Hid (∀ W, Below w.heap.size w W → EnR W b 0 n E) := fun W hW => hR.below hW
  have HC : Hid (∀ p W, p.size ≤ 1048576 → Calls Tryz.prog 94 #[.string p, .string P] W fun e w' => e = .returned (.bool (decide (Und p.data.toList P.data.toList))) ∧ w' = W) := fun p W hp => under_any p P hp hPs W
  have HS : Hid (SmE n E) := hS
  obtain ⟨F, hF⟩ : ∃ F : List Nat → Nat → En, F = selS E (P.size + 1) := ⟨_, rfl⟩
  have HFB : Hid (blF E n P.data.toList = F (unL E P.data.toList n)) := by show _ = _; rw [hF]; unfold blF; simp
  have HFS : Hid (∀ L i, enC (F (L ++ [i])) (L.length + 1) = enC (F L) L.length ++ [.string ((E i).path.extract (P.size + 1) (E i).path.size), .int .i64 (E i).kind, .string (E i).data, .bool (E i).exec]) := by rw [hF]; exact fun L i => selS_snoc E _ L i
  clear hR hS hF
  go_enter Tryz.func61, Tryz.ntmps61
  go_wp2
  go_loopw [5, 6] (fun v x wr => ∃ i : Nat, i ≤ n ∧ x = .int .i64 (i : Int) ∧ wr.ownsRow w.heap.size 29 4 v (unL E P.data.toList i).length (enC (F (unL E P.data.toList i)) (unL E P.data.toList i).length) ∧ v ≠ .slice none 0 0 ∧ Below w.heap.size w wr) (fun _ x _ => n - (intOf x).toNat)
  case atStart => exact ⟨0, Nat.zero_le _, rfl, made_own w 0 (by omega) #[] rfl, (by intro e; cases e), (Below.refl _ _).alloc (Nat.le_refl _) _⟩
  case round =>
    obtain ⟨i, hi, rfl, hown, hvn, hbel⟩ := hrel
    obtain ⟨L, hL⟩ : ∃ L, unL E P.data.toList i = L := ⟨_, rfl⟩
    have HL : Hid (unL E P.data.toList i = L) := hL
    have hLl : L.length ≤ 1000 := by have := unL_le E P.data.toList i; rw [hL] at this; omega
    rw [hL] at hown
    obtain ⟨at7, cp7, hv7⟩ := own_shape hown
    subst hv7
    have HOW : Hid (wr.ownsRow w.heap.size 29 4 (.slice at7 L.length cp7) L.length (enC (F L) L.length)) := hown
    have HNN : Hid (Value.slice at7 L.length cp7 ≠ .slice none 0 0) := hvn
    have HBE : Hid (Below w.heap.size w wr) := hbel
    clear hown hvn hbel hL
    by_cases hin : i < n
    · have hin' : (i : Int) < (n : Int) := by omega
      have hi0 : (0 : Int) ≤ (i : Int) := by omega
      obtain ⟨c0, c1, c2, c3⟩ := HR.out _ HBE.out i hin
      rw [Nat.zero_add] at c0 c1 c2 c3
      have HPM : Hid (pth E i = (E i).path.data.toList) := rfl
      have hsm := (HS.out i hin).1
      have HSU : Hid ((Und (pth E i) P.data.toList → unL E P.data.toList (i + 1) = L ++ [i]) ∧ (¬ Und (pth E i) P.data.toList → unL E P.data.toList (i + 1) = L)) := by rw [← HL.out]; exact unL_succ E P.data.toList i
      have HSN : Hid (enC (F (L ++ [i])) (L.length + 1) = enC (F L) L.length ++ [.string ((E i).path.extract (P.size + 1) (E i).path.size), .int .i64 (E i).kind, .string (E i).data, .bool (E i).exec]) := HFS.out L i
      obtain ⟨e1, he1⟩ : ∃ e1, E i = e1 := ⟨_, rfl⟩
      rw [he1] at c0 c1 c2 c3 HPM HSN hsm
      clear he1
      obtain ⟨M, kM, dM, xM⟩ := e1
      simp only at c0 c1 c2 c3 HPM HSN hsm
      have HCM : Hid (∀ W, Calls Tryz.prog 94 #[.string M, .string P] W fun e w' => e = .returned (.bool (decide (Und M.data.toList P.data.toList))) ∧ w' = W) := fun W => HC.out M W hsm
      by_cases hu : Und M.data.toList P.data.toList
      · rw [decide_eq_true hu] at HCM
        have HLN : Hid (unL E P.data.toList (i + 1) = L ++ [i]) := HSU.out.1 (by rw [HPM.out]; exact hu)
        have hsz := und_size hu
        have hsz1 : (P.size : Int) + 1 ≤ (M.size : Int) := by omega
        have hsz0 : (0 : Int) ≤ (P.size : Int) + 1 := by omega
        have hw1 : wrap64 ((P.size : Int) + 1) = (P.size : Int) + 1 := by unfold wrap64; omega
        have HOA : Hid (∀ ob ob2, ((wr.alloc ob).alloc ob2).ownsRow w.heap.size 29 4 (.slice at7 L.length cp7) L.length (enC (F L) L.length)) := fun ob ob2 => own_below HOW.out (((Below.refl _ _).alloc (Nat.le_refl _) _).alloc (by simp) _)
        have HBA : Hid (∀ ob ob2, Below w.heap.size w ((wr.alloc ob).alloc ob2)) := fun ob ob2 => (HBE.out.alloc HBE.out.size _).alloc (by have := HBE.out.size; simp; omega) _
        have HSA : Hid (∀ ob ob2, w.heap.size ≤ ((wr.alloc ob).alloc ob2).heap.size) := fun ob ob2 => (HBA.out ob ob2).size
        have HCW : Hid (L.length ≤ 2000000) := by show _ ≤ _; omega
        clear hsm hu hsz
        go_wp2_with (first
          | (go_at_call 94; refine (HCM.out _).mono ?_; rintro e w1 ⟨rfl, hw⟩; have hw2 := hw.symm; subst hw2; clear hw)
          | (at_builtin; refine app_ent _ rfl _ _ rfl w.heap.size _ _ _ rfl (HOA.out _ _) HNN.out ⟨wr.heap.size + 1, 0, none⟩ 1 (.string (M.extract (P.size + 1) M.size)) (.int .i64 kM) (.string dM) (.bool xM) rfl (four_at _ _ (by simp) _ _ _ _ _) (four_one _ kM dM xM) HCW.out (HSA.out _ _) ?_; intro v6 w6 hownw6 hvw6 hgw6; refine Hid.out ?_)
          | go_in)
        refine Lib.hid ?_
        have HB6 : Hid (Below w.heap.size w w6) := (HBA.out _ _).grown hgw6 (HBA.out _ _).size (fun k hk => ((HOA.out (.cells #[.string (M.extract (P.size + 1) M.size), .int .i64 kM, .string dM, .bool xM] 29) (.cells #[.string (M.extract (P.size + 1) M.size), .int .i64 kM, .string dM, .bool xM] 29)).lt k hk).1)
        have HO6 : Hid (w6.ownsRow w.heap.size 29 4 v6 (L.length + 1) (enC (F (L ++ [i])) (L.length + 1))) := by rw [HSN.out]; exact hownw6
        have HV6 : Hid (v6 ≠ .slice none 0 0) := hvw6
        clear hownw6 hvw6 hgw6 c0 c1 c2 c3
        go_wp2
        go_roundw
        case rel => exact ⟨i + 1, by omega, by go_num, by rw [HLN.out, List.length_append]; exact HO6.out, HV6.out, HB6.out⟩
        case measure => simp [intOf] <;> omega
      · rw [decide_eq_false hu] at HCM
        have HLN : Hid (unL E P.data.toList (i + 1) = L) := HSU.out.2 (by rw [HPM.out]; exact hu)
        clear hsm hu
        go_wp2_with (go_at_call 94; refine (HCM.out _).mono ?_; rintro e w1 ⟨rfl, hw⟩; have hw2 := hw.symm; subst hw2; clear hw)
        go_roundw
        case rel => exact ⟨i + 1, by omega, by go_num, by rw [HLN.out]; exact HOW.out, HNN.out, HBE.out⟩
        case measure => simp [intOf] <;> omega
    · have hin' : ¬ (i : Int) < (n : Int) := by omega
      obtain rfl : i = n := by omega
      go_wp2
      go_ret
      rw [HFB.out, HL.out]
      exact ⟨⟨_, rfl, own_rowE HOW.out HNN.out⟩, HBE.out⟩

set_option maxRecDepth 100000 in
theorem sbel_any (E : Nat → En) (b n cap : Nat) (q : ByteArray) (w : World) (hR : EnR w b 0 n E) (hS : SmE n E) (hn : n ≤ 1048576) (hq : q.size ≤ 1048576) (hcap : n ≤ cap) (hcl : cap ≤ maxLen) :
    Calls Tryz.prog 24 #[.slice (some ⟨b, 0, none⟩) n cap, .string q] w fun r w' => (∃ v, r = .returned v ∧ RowE w.heap.size w' v (blN E n q.data.toList) (blF E n q.data.toList)) ∧ Below w.heap.size w w' := by
  have HT : Hid (∀ W, Below w.heap.size w W → Calls Tryz.prog 9 #[.slice (some ⟨b, 0, none⟩) n cap] W fun e w' => e = .returned (.bool (treeB E n)) ∧ Below W.heap.size W w') := fun W hb => stree_any E b 0 n cap W (hR.below hb) hS hn hcap hcl
  have HD : Hid (∀ W, Below w.heap.size w W → Asc E n → Calls Tryz.prog 40 #[.slice (some ⟨b, 0, none⟩) n cap, .string q] W fun e w' => e = .returned (.bool (dirB E n q.data.toList)) ∧ Below W.heap.size W w') := fun W hb hA => dir_any E b 0 n cap q W (hR.below hb) hA hn hcap
  have HL : Hid (∀ W, Below w.heap.size w W → n ≤ 500 → Calls Tryz.prog 61 #[.slice (some ⟨b, 0, none⟩) n cap, .string q] W fun r w' => (∃ v, r = .returned v ∧ RowE W.heap.size w' v (unL E q.data.toList n).length (blF E n q.data.toList)) ∧ Below W.heap.size W w') := fun W hW h5 => sl10below_any E b n cap q W (hR.below hW) hS h5 hq
  clear hR hS
  cases ht : treeB E n with
  | false =>
    rw [ht] at HT
    have HE : Hid (blN E n q.data.toList = 0) := by show _ = _; unfold blN; rw [if_neg (by rw [ht]; simp)]
    clear ht
    go_enter Tryz.func24, Tryz.ntmps24
    go_wp2_with (go_at_call 9; refine (HT.out _ (Below.refl _ _)).mono ?_; rintro e w1 ⟨rfl, hl1⟩)
    go_ret
    rw [HE.out]
    exact ⟨⟨_, rfl, rowE_mono (row0 _ w1) hl1.size⟩, hl1.alloc hl1.size _⟩
  | true =>
    rw [ht] at HT
    obtain ⟨hn5, hTr⟩ := treeB_is ht
    have HA : Hid (Asc E n) := hTr.asc
    cases hd : dirB E n q.data.toList with
    | false =>
      rw [hd] at HD
      have HE : Hid (blN E n q.data.toList = 0) := by show _ = _; unfold blN; rw [if_neg (by rw [hd]; simp)]
      clear ht hd hTr
      go_enter Tryz.func24, Tryz.ntmps24
      go_wp2_with (first
        | (go_at_call 9; refine (HT.out _ (Below.refl _ _)).mono ?_; rintro e w1 ⟨rfl, hl1⟩)
        | (go_at_call 40; refine (HD.out _ hl1 HA.out).mono ?_; rintro e w2 ⟨rfl, hl2⟩; have hb2 := hl1.trans (hl2.mono hl1.size)))
      go_ret
      rw [HE.out]
      exact ⟨⟨_, rfl, rowE_mono (row0 _ w2) hb2.size⟩, hb2.alloc hb2.size _⟩
    | true =>
      rw [hd] at HD
      have HE : Hid (blN E n q.data.toList = (unL E q.data.toList n).length) := by show _ = _; unfold blN; rw [if_pos ⟨ht, hd⟩]
      clear ht hd hTr
      go_enter Tryz.func24, Tryz.ntmps24
      go_wp2_with (first
        | (go_at_call 9; refine (HT.out _ (Below.refl _ _)).mono ?_; rintro e w1 ⟨rfl, hl1⟩)
        | (go_at_call 40; refine (HD.out _ hl1 HA.out).mono ?_; rintro e w2 ⟨rfl, hl2⟩; have hb2 := hl1.trans (hl2.mono hl1.size))
        | (go_at_call 61; refine (HL.out _ hb2 hn5).mono ?_; rintro e w3 ⟨⟨v, rfl, hv⟩, hl3⟩))
      go_ret
      rw [HE.out]
      exact ⟨⟨_, rfl, rowE_mono hv hb2.size⟩, hb2.trans (hl3.mono hb2.size)⟩

end Go.Proofs.YtaoimkjcaienbaaGreatDoor.tt

namespace Go.Proofs.YtaoimkjcaienbaaGreatDoor.tt
open Go.ChangeShapes Go.WideShapes Go.ChangeAt Go.RowKit Go.Deep
set_option linter.unusedVariables false
set_option linter.unusedSimpArgs false

/-! ### impl.Below -/

theorem dir_fnd {E : Nat → En} {n : Nat} {q : List UInt8} (hA : Asc E n) (h : Dir E n q) : 0 ≤ fnd E n q := by
  obtain ⟨j, hj, hp, _⟩ := h
  unfold fnd
  rw [chd_yes hA hj hp]
  omega
theorem bl_found {E : Nat → En} {n j : Nat} {q : List UInt8} (ht : treeB E n = true) (hj : j < n) (hp : pth E j = q) : blN E n q = (unL E q n).length := by
  unfold blN
  by_cases hk : (E j).kind = 1
  · rw [if_pos ⟨ht, dirB_yes ⟨j, hj, hp, hk⟩⟩]
  · rw [← hp, un_leaf (treeB_is ht).2 hj hk]
    split <;> rfl

/-- What the loop leaves: all below, and the row of numbers. -/
def BW (w w1 w3 : World) (g : Nat) (W : World) : Prop := Below w.heap.size w W ∧ W.heap[g]? = w3.heap[g]? ∧ w1.heap.size ≤ W.heap.size
theorem own_ne {W : World} {base g k : Nat} {v : Value} {xs : List Value} {cur : Array Value} {fr : Nat × Nat} (h : W.ownsRow base 29 4 v k xs) (hg : W.heap[g]? = some (.cells cur 3 fr)) : some g ≠ v.ownBlock := by
  intro e
  rcases h.2 with ⟨rfl, _⟩ | ⟨g', cap, cur', rfl, _, hb, _⟩
  · simp [Value.ownBlock] at e
  · obtain rfl : g = g' := by simpa [Value.ownBlock] using e
    rw [hg] at hb
    have := (Obj.cells.inj (Option.some.inj hb)).2.1
    revert this
    decide
theorem sel_smS {E : Nat → En} {n c : Nat} (hS : SmE n E) (U : List Nat) (hU : ∀ x ∈ U, x < n) : SmE U.length (selS E c U) := fun k hk => by
  have hm : U.getD k 0 ∈ U := by rw [List.getD_eq_getElem?_getD, List.getElem?_eq_getElem hk]; exact List.getElem_mem hk
  have h := hS _ (hU _ hm)
  refine ⟨?_, h.2⟩
  show ((E (U.getD k 0)).path.extract c (E (U.getD k 0)).path.size).size ≤ _
  rw [ByteArray.size_extract]
  omega

set_option maxHeartbeats 8000000 in
set_option maxRecDepth 100000 in
theorem ibel_any (E : Nat → En) (b o n cap : Nat) (q : ByteArray) (hq : q.size ≤ 1048576) (w : World) (hR : EnR w b o n E) (hS : SmE n E) (hn : n ≤ 1048576) (hm : ML w) (hC : AtC E) :
    Calls Tryz.prog 22 #[.slice (some ⟨b, o, none⟩) n cap, .string q] w fun r w' => (∃ v, r = .returned v ∧ RowE w.heap.size w' v (blN E n q.data.toList) (blF E n q.data.toList)) ∧ Below w.heap.size w w' := by
  have HB : Hid (Calls Tryz.prog 49 #[.slice (some ⟨b, o, none⟩) n cap, .string q] w fun e w' => ((treeB E n = false ∧ e = .returned (.tuple #[.pointer none, .bool false])) ∨ treeB E n = true ∧ ∃ rb B M, BrA w w' E n rb (rb + 1) B M ∧ e = .returned (.tuple #[ptr (chd E B n q.data.toList), .bool true])) ∧ Below w.heap.size w w') := branchAt_any E b o n cap q hq w hR hS hn hm hC
  have HR : Hid (∀ W, Below w.heap.size w W → EnR W b o n E) := fun W hW => hR.below hW
  have HS : Hid (SmE n E) := hS
  clear hR hS hm hC
  go_enter Tryz.func22, Tryz.ntmps22
  go_wp2_with (go_at_call 49; refine HB.out.mono ?_; rintro e w1 ⟨h, hb⟩; rcases h with ⟨ht, rfl⟩ | ⟨ht, rb, B, M, hX, rfl⟩; rotate_left; rcases chd_id (B := B) (p := q.data.toList) hX.tr.asc with ⟨hc, hf⟩ | ⟨j, hj, hc, hf⟩; all_goals refine Hid.out ?_)
  · refine Lib.hid ?_
    have HE : Hid (blN E n q.data.toList = 0) := by show _ = _; unfold blN; rw [if_neg (fun h => by have := dir_fnd hX.tr.asc (dirB_iff.1 h.2); omega)]
    clear hc hf hX ht
    unfold ptr
    go_wp2
    go_ret
    rw [HE.out]
    exact ⟨⟨_, rfl, rowE_mono (row0 _ w1) hb.size⟩, hb.alloc hb.size _⟩
  · refine Lib.hid ?_
    have h0 : 0 ≤ fnd E n q.data.toList := by omega
    obtain ⟨j', hj', hjp, hfj⟩ := fnd_at h0
    obtain rfl : j' = j := by omega
    have HE : Hid (blN E n q.data.toList = (unL E q.data.toList n).length) := bl_found ht hj hjp
    have HSUB : Hid (subL E n j' = j' :: unL E q.data.toList n) := by rw [← hjp]; exact sub_cons hX.tr.asc hj
    have HSB : Hid (∀ v, nb.SeqO Tryz.prog 89 #[.pointer (some ⟨w1.heap.size + 1, 0, none⟩)] w1.heap.size (fun xs => xs.Perm (nb.ints (subL E n j'))) (subL E n j').length (((w1.alloc (.cells #[] 29)).alloc (.cells #[.pointer (some ⟨B j', 0, none⟩)] 77)).alloc (.cells #[v] 86))) := fun v =>
      nb.num_seq hX.tr hX.br (n - j') j' hj (Nat.le_refl _) (w1.heap.size + 1) _ ((((Below.refl _ w1).alloc (Nat.le_refl _) _).alloc (by simp) _).alloc (by simp; omega) _) ((Below.heap_alloc _ _ _ (by simp)).trans (by have := World.alloc_heap_new (w1.alloc (.cells #[] 29)) (.cells #[.pointer (some ⟨B j', 0, none⟩)] 77); rwa [World.size_alloc] at this))
    have HSO : Hid (Calls Tryz.prog 54 #[.func (.func 89) #[] #[.pointer (some ⟨w1.heap.size + 1, 0, none⟩)]] ((w1.alloc (.cells #[] 29)).alloc (.cells #[.pointer (some ⟨B j', 0, none⟩)] 77)) fun e w' => ∃ v, e = .returned v ∧ w'.ownsRow (w1.heap.size + 2) 3 1 v (subL E n j').length (nb.iVs (nb.ints (subL E n j'))) ∧ Below (w1.heap.size + 2) ((w1.alloc (.cells #[] 29)).alloc (.cells #[.pointer (some ⟨B j', 0, none⟩)] 77)) w') := by
      have := nb.sorted_any (sub_asc j') (List.length_pos_of_mem (mem_sub.2 ⟨hj, .inl rfl⟩)) (enters_of Tryz.func89 (by kernel_rfl) rfl) ((w1.alloc (.cells #[] 29)).alloc (.cells #[.pointer (some ⟨B j', 0, none⟩)] 77)) (n0 := w1.heap.size) (by simp; omega) (by have := sub_le E n j'; omega) HSB.out
      rw [World.size_alloc, World.size_alloc] at this
      exact this
    have HO0 : Hid (∀ W, Below (w1.heap.size + 1) (w1.alloc (.cells #[] 29)) W → W.ownsRow w1.heap.size 29 4 (.slice (some ⟨w1.heap.size, 0, none⟩) 0 0) 0 []) := fun W hW => own_below (made_own w1 0 (by omega) #[] rfl) (by rw [World.size_alloc]; exact hW)
    clear hc hf hX ht h0
    unfold ptr
    go_wp2_with (first
      | (go_at_call 55; refine (nb.inum_any _ _).mono ?_; rintro e w2 ⟨rfl, rfl⟩)
      | (go_at_call 54; refine HSO.out.mono ?_; rintro e w3 ⟨v3, rfl, hrow3, hl3⟩; refine Hid.out ?_))
    refine Lib.hid ?_
    obtain ⟨U, hU⟩ : ∃ U, unL E q.data.toList n = U := ⟨_, rfl⟩
    have HU : Hid (unL E q.data.toList n = U) := hU
    rw [hU] at HSUB HE
    have HUM : Hid (∀ x ∈ U, x < n ∧ Und (pth E x) q.data.toList) := fun x hx => by rw [← hU] at hx; exact mem_un.1 hx
    rw [HSUB.out] at hrow3
    obtain ⟨m, hmm⟩ : ∃ m, U.length = m := ⟨_, rfl⟩
    have HMM : Hid (U.length = m) := hmm
    have hmn : m ≤ n := by have := unL_le E q.data.toList n; rw [hU] at this; omega
    rw [List.length_cons, hmm] at hrow3
    clear hU hmm
    obtain ⟨g, cp, rfl, hcp⟩ : ∃ g cp, v3 = .slice (some ⟨g, 0, none⟩) (m + 1) cp ∧ m + 1 ≤ cp := by
      rcases hrow3.2 with ⟨_, h0⟩ | ⟨g', cap', cur, hv, _, _, hle, _⟩
      · omega
      · exact ⟨g', cap', hv, hle⟩
    obtain ⟨cu, hgb⟩ : ∃ cu, w3.heap[g]? = some (.cells cu 3 (0, 0)) := by
      rcases hrow3.2 with ⟨h0, _⟩ | ⟨g', cap', cur, hv, _, hgb, _⟩
      · cases h0
      · cases hv; exact ⟨_, hgb⟩
    have hb3 : Below w1.heap.size w1 w3 := (((Below.refl _ w1).alloc (Nat.le_refl _) _).alloc (by simp) _).trans (hl3.mono (by omega))
    have HBW3 : Hid (Below w.heap.size w w3) := hb.trans (hb3.mono hb.size)
    have hg3 : g < w3.heap.size := (hrow3.lt g rfl).2
    have HG3X : Hid (∀ W, BW w w1 w3 g W → ∀ (k x : Nat), U[k]? = some x → W.cell? ⟨g, 1 + k, none⟩ = some (.int .i64 (x : Int))) := fun W hW k x hx => by
      have h1 := own_cell hrow3 (k := 1 + k) (x := (x : Int)) (by unfold nb.ints; rw [List.getElem?_map, Nat.add_comm, List.getElem?_cons_succ, hx]; rfl)
      exact (World.cell?_of_block (a := ⟨g, 1 + k, none⟩) hW.2.1).trans h1
    have HUPX : Hid (∀ W, BW w w1 w3 g W → Below w.heap.size w W) := fun W h => h.1
    have HBWS : Hid (∀ W, BW w w1 w3 g W → w1.heap.size ≤ W.heap.size) := fun W h => h.2.2
    have HBWA : Hid (∀ W, BW w w1 w3 g W → ∀ ob, BW w w1 w3 g (W.alloc ob)) := fun W h ob => ⟨h.1.alloc h.1.size ob, (Below.heap_alloc W ob g (by have := h.2.1.trans hgb; exact (Array.getElem?_eq_some_iff.1 this).1)).trans h.2.1, by have := h.2.2; simp; omega⟩
    have HBWG : Hid (∀ W W' v k xs, BW w w1 w3 g W → W.ownsRow w1.heap.size 29 4 v k xs → W.grownBy W' v.ownBlock → BW w w1 w3 g W') := fun W W' v k xs h ho hg => ⟨h.1.grown hg h.1.size (fun k hk => Nat.le_trans hb.size (ho.lt k hk).1), (hg.block g (Array.getElem?_eq_some_iff.1 (h.2.1.trans hgb)).1 (own_ne ho (h.2.1.trans hgb))).trans h.2.1, Nat.le_trans h.2.2 hg.size⟩
    have hbwx0 : BW w w1 w3 g w3 := ⟨HBW3.out, rfl, hb3.size⟩
    have HO03 : Hid (w3.ownsRow w1.heap.size 29 4 (.slice (some ⟨w1.heap.size, 0, none⟩) 0 0) 0 []) := HO0.out w3 (((Below.refl _ (w1.alloc (.cells #[] 29))).alloc (by simp) _).trans (hl3.mono (by omega)))
    obtain ⟨F, hF⟩ : ∃ F : List Nat → Nat → En, F = selS E (q.size + 1) := ⟨_, rfl⟩
    have HFB : Hid (blF E n q.data.toList = F U) := by show _ = _; rw [hF, ← HU.out]; unfold blF; simp
    have HFS : Hid (∀ L i, enC (F (L ++ [i])) (L.length + 1) = enC (F L) L.length ++ [.string ((E i).path.extract (q.size + 1) (E i).path.size), .int .i64 (E i).kind, .string (E i).data, .bool (E i).exec]) := by rw [hF]; exact fun L i => selS_snoc E _ L i
    have HSF : Hid (SmE m (F U)) := by have h := sel_smS (c := q.size + 1) HS.out U (fun x hx => (HUM.out x hx).1); rw [HMM.out] at h; rw [hF]; exact h
    clear hl3 hrow3 hb3 hj' hF hgb
    go_wp2
    · have hm0 : m ≤ 0 := by omega
      have HO3 : Hid (w3.ownsRow w1.heap.size 29 4 (.slice (some ⟨w1.heap.size, 0, none⟩) 0 0) 0 (enC (F (U.take 0)) 0)) := HO03.out
      go_loopw [7, 26] (fun v x wr => ∃ i : Nat, i ≤ m ∧ x = .int .i64 (i : Int) ∧ wr.ownsRow w1.heap.size 29 4 v i (enC (F (U.take i)) i) ∧ v ≠ .slice none 0 0 ∧ BW w w1 w3 g wr) (fun _ x _ => m - (intOf x).toNat)
      case atStart => exact ⟨0, Nat.zero_le _, rfl, HO3.out, (by intro e; cases e), hbwx0⟩
      case round =>
        obtain ⟨i, hi, rfl, hown, hvn, hbel⟩ := hrel
        obtain ⟨at7, cp7, hv7⟩ := own_shape hown
        subst hv7
        have HOW : Hid (wr.ownsRow w1.heap.size 29 4 (.slice at7 i cp7) i (enC (F (U.take i)) i)) := hown
        have HNN : Hid (Value.slice at7 i cp7 ≠ .slice none 0 0) := hvn
        have HBE : Hid (BW w w1 w3 g wr) := hbel
        clear hown hvn hbel
        by_cases hin : i < m
        · exact absurd hin (by omega)
        · have hin' : ¬ (i : Int) < (m : Int) := by omega
          obtain rfl : i = m := by omega
          have htk : U.take i = U := List.take_of_length_le (by rw [HMM.out]; exact Nat.le_refl _)
          have HR7 : Hid (RowE w1.heap.size wr (.slice at7 i cp7) i (F U)) := by have h := own_rowE HOW.out HNN.out; rw [htk] at h; exact h
          obtain ⟨g7, cap7, f7, hv7, hg7, _, _, _, he7⟩ := HR7.out
          cases hv7
          have HSL2 : Hid (Calls Tryz.prog 51 #[.slice (some ⟨g7, 0, none⟩) i cp7] wr fun e w' => (∃ v, e = .returned v ∧ w'.ownsRow wr.heap.size 29 4 v i (enC (F U) i) ∧ v ≠ .slice none 0 0) ∧ Below wr.heap.size wr w') := cloned_any _ g7 0 i cp7 wr he7 HSF.out (by omega)
          clear he7
          go_wp2_with (go_at_call 51; refine HSL2.out.mono ?_; rintro e w9 ⟨⟨v9, rfl, hown9, hv9⟩, hl9⟩; have HR9 : Hid (RowE wr.heap.size w9 v9 i (F U)) := own_rowE hown9 hv9; clear hown9 hv9)
          go_ret
          have hbw := HUPX.out _ HBE.out
          rw [HE.out, HFB.out, HMM.out]
          exact ⟨⟨_, rfl, rowE_mono HR9.out hbw.size⟩, hbw.trans (hl9.mono hbw.size)⟩
    · have HO3 : Hid (w3.ownsRow w1.heap.size 29 4 (.slice (some ⟨w1.heap.size, 0, none⟩) 0 0) 0 (enC (F (U.take 0)) 0)) := HO03.out
      go_loopw [7, 26] (fun v x wr => ∃ i : Nat, i ≤ m ∧ x = .int .i64 (i : Int) ∧ wr.ownsRow w1.heap.size 29 4 v i (enC (F (U.take i)) i) ∧ v ≠ .slice none 0 0 ∧ BW w w1 w3 g wr) (fun _ x _ => m - (intOf x).toNat)
      case atStart => exact ⟨0, Nat.zero_le _, rfl, HO3.out, (by intro e; cases e), hbwx0⟩
      case round =>
        obtain ⟨i, hi, rfl, hown, hvn, hbel⟩ := hrel
        obtain ⟨at7, cp7, hv7⟩ := own_shape hown
        subst hv7
        have HOW : Hid (wr.ownsRow w1.heap.size 29 4 (.slice at7 i cp7) i (enC (F (U.take i)) i)) := hown
        have HNN : Hid (Value.slice at7 i cp7 ≠ .slice none 0 0) := hvn
        have HBE : Hid (BW w w1 w3 g wr) := hbel
        clear hown hvn hbel
        by_cases hin : i < m
        · have hin' : (i : Int) < (m : Int) := by omega
          have hi0 : (0 : Int) ≤ (i : Int) := by omega
          obtain ⟨x, hx⟩ : ∃ x, U[i]? = some x := ⟨_, List.getElem?_eq_getElem (by rw [HMM.out]; exact hin)⟩
          obtain ⟨hxn, hxu⟩ := HUM.out x (List.mem_of_getElem? hx)
          have hgc := HG3X.out _ HBE.out i x hx
          have hx0 : (0 : Int) ≤ (x : Int) := by omega
          have hxn' : (x : Int) < (n : Int) := by omega
          obtain ⟨c0, c1, c2, c3⟩ := HR.out _ (HUPX.out _ HBE.out) x hxn
          have HTK : Hid (U.take (i + 1) = U.take i ++ [x]) := by show _ = _; rw [List.take_add_one, hx]; rfl
          have htl : (U.take i).length = i := by rw [List.length_take, HMM.out]; omega
          have HSN : Hid (enC (F (U.take i ++ [x])) (i + 1) = enC (F (U.take i)) i ++ [.string ((E x).path.extract (q.size + 1) (E x).path.size), .int .i64 (E x).kind, .string (E x).data, .bool (E x).exec]) := by have h := HFS.out (U.take i) x; rw [htl] at h; exact h
          have hsz : q.size + 1 ≤ (E x).path.size := by
            have h := (und_at hxu).2.2
            unfold pth at h
            simp at h
            omega
          have hsm := (HS.out x hxn).1
          obtain ⟨e1, he1⟩ : ∃ e1, E x = e1 := ⟨_, rfl⟩
          rw [he1] at c0 c1 c2 c3 HSN hsz hsm
          clear he1 hx hxu htl
          obtain ⟨Q, kM, dM, xM⟩ := e1
          simp only at c0 c1 c2 c3 HSN hsz hsm
          have hq1 : (q ++ ⟨#[47]⟩ : ByteArray).size = q.size + 1 := by rw [ByteArray.size_append]; rfl
          have hsz1 : (q.size : Int) + 1 ≤ (Q.size : Int) := by omega
          have hsz0 : (0 : Int) ≤ (q.size : Int) + 1 := by omega
          have HOA : Hid (∀ ob ob2, ((wr.alloc ob).alloc ob2).ownsRow w1.heap.size 29 4 (.slice at7 i cp7) i (enC (F (U.take i)) i)) := fun ob ob2 => own_below HOW.out (((Below.refl _ _).alloc (Nat.le_refl _) _).alloc (by simp) _)
          have HBA : Hid (∀ ob ob2, BW w w1 w3 g ((wr.alloc ob).alloc ob2)) := fun ob ob2 => HBWA.out _ (HBWA.out _ HBE.out ob) ob2
          have HSA : Hid (∀ ob ob2, w1.heap.size ≤ ((wr.alloc ob).alloc ob2).heap.size) := fun ob ob2 => HBWS.out _ (HBA.out ob ob2)
          have HCW : Hid (i ≤ 2000000) := by show _ ≤ _; omega
          clear hsz hsm
          go_wp2_with (first
            | (at_builtin; refine app_ent _ rfl _ _ rfl w1.heap.size _ _ _ rfl (HOA.out _ _) HNN.out ⟨wr.heap.size + 1, 0, none⟩ 1 (.string (Q.extract (q.size + 1) Q.size)) (.int .i64 kM) (.string dM) (.bool xM) rfl (four_at _ _ (by simp) _ _ _ _ _) (four_one _ kM dM xM) HCW.out (HSA.out _ _) ?_; intro v6 w6 hownw6 hvw6 hgw6; refine Hid.out ?_)
            | go_in)
          refine Lib.hid ?_
          have HB6 : Hid (BW w w1 w3 g w6) := HBWG.out _ _ _ _ _ (HBA.out _ _) (HOA.out _ _) hgw6
          have HO6 : Hid (w6.ownsRow w1.heap.size 29 4 v6 (i + 1) (enC (F (U.take i ++ [x])) (i + 1))) := by rw [HSN.out]; exact hownw6
          have HV6 : Hid (v6 ≠ .slice none 0 0) := hvw6
          clear hownw6 hvw6 hgw6 c0 c1 c2 c3 hgc
          go_wp2
          go_roundw
          case rel => exact ⟨i + 1, by omega, by go_num, by rw [HTK.out]; exact HO6.out, HV6.out, HB6.out⟩
          case measure => simp [intOf] <;> omega
        · have hin' : ¬ (i : Int) < (m : Int) := by omega
          obtain rfl : i = m := by omega
          have htk : U.take i = U := List.take_of_length_le (by rw [HMM.out]; exact Nat.le_refl _)
          have HR7 : Hid (RowE w1.heap.size wr (.slice at7 i cp7) i (F U)) := by have h := own_rowE HOW.out HNN.out; rw [htk] at h; exact h
          obtain ⟨g7, cap7, f7, hv7, hg7, _, _, _, he7⟩ := HR7.out
          cases hv7
          have HSL2 : Hid (Calls Tryz.prog 51 #[.slice (some ⟨g7, 0, none⟩) i cp7] wr fun e w' => (∃ v, e = .returned v ∧ w'.ownsRow wr.heap.size 29 4 v i (enC (F U) i) ∧ v ≠ .slice none 0 0) ∧ Below wr.heap.size wr w') := cloned_any _ g7 0 i cp7 wr he7 HSF.out (by omega)
          clear he7
          go_wp2_with (go_at_call 51; refine HSL2.out.mono ?_; rintro e w9 ⟨⟨v9, rfl, hown9, hv9⟩, hl9⟩; have HR9 : Hid (RowE wr.heap.size w9 v9 i (F U)) := own_rowE hown9 hv9; clear hown9 hv9)
          go_ret
          have hbw := HUPX.out _ HBE.out
          rw [HE.out, HFB.out, HMM.out]
          exact ⟨⟨_, rfl, rowE_mono HR9.out hbw.size⟩, hbw.trans (hl9.mono hbw.size)⟩
  · refine Lib.hid ?_
    have HE : Hid (blN E n q.data.toList = 0) := by show _ = _; unfold blN; rw [if_neg (by rw [ht]; simp)]
    clear ht
    go_wp2
    go_ret
    rw [HE.out]
    exact ⟨⟨_, rfl, rowE_mono (row0 _ w1) hb.size⟩, hb.alloc hb.size _⟩

end Go.Proofs.YtaoimkjcaienbaaGreatDoor.tt

namespace Go.Proofs.YtaoimkjcaienbaaGreatDoor.tt
set_option linter.unusedVariables false
set_option linter.unusedSimpArgs false

/-! ### What is below, what stays, and the entry itself are all there is -/

theorem part_len {E : Nat → En} {n j : Nat} {q : List UInt8} (hA : Asc E n) (hj : j < n) (hq : pth E j = q) : ∀ i, i ≤ n → (stL E q i).length + (goL E j i).length = i := by
  intro i
  induction i with
  | zero => intro _; rfl
  | succ i ih =>
    intro hi
    have h := ih (by omega)
    by_cases hs : InS E j i
    · rw [stL_succ, if_neg (fun h2 => (stay_iff hA (by omega) hj hq).1 h2 hs), (go_succ E j i).1 hs, List.length_append]
      show _ + (_ + 1) = _
      omega
    · rw [stL_succ, if_pos ((stay_iff hA (by omega) hj hq).2 hs), (go_succ E j i).2 hs, List.length_append]
      show _ + 1 + _ = _
      omega
/-- Cut and below count together. -/
theorem below_count {E : Nat → En} {n : Nat} {q : List UInt8} (hc : cuB E n q = true) : blN E n q + cuN E n q + 1 = n := by
  unfold cuB at hc
  rw [Bool.and_eq_true, decide_eq_true_iff] at hc
  obtain ⟨ht, h0⟩ := hc
  obtain ⟨j, hj, hp, _⟩ := fnd_at h0
  have hA := (treeB_is ht).2.asc
  have h1 := part_len hA hj hp n (Nat.le_refl _)
  have h2 : cuN E n q = (stL E q n).length := by unfold cuN; rw [if_pos ht, if_pos h0]
  have h3 := bl_found ht hj hp
  have h4 := congrArg List.length (sub_cons hA hj)
  rw [List.length_cons, hp] at h4
  rw [go_all] at h1
  omega

end Go.Proofs.YtaoimkjcaienbaaGreatDoor.tt
