import Derived.Test.YtlolkckbpcfnbaaDoorRFE
import Derived.Test.YtlolkckbpcfnbaaDoorTL
import Derived.Test.YtlolkckbpcfnbaaDoorTY
namespace Go.Proofs.YtlolkckbpcfnbaaDoor.rf
open Go.ChangeShapes Go.WideShapes Go.ChangeAt Go.RowKit Go.Deep Go.Shelf Go.Sort Go.Maps
set_option linter.unusedVariables false
set_option linter.unusedSimpArgs false

/-! ### References: both RefsIn -/

theorem tree_is {E : Nat → tt.En} {n : Nat} (h : tt.treeB E n = true) : n ≤ 500 ∧ tt.Tr E n := by unfold tt.treeB at h; exact (@decide_eq_true_iff _ (Classical.propDecidable _)).1 h
theorem PW_len {E : Nat → tt.En} {B : Nat} : ∀ {N : Nat}, (∀ i, i < N → (E i).data.size ≤ B) → (PW E N).length ≤ N * B
  | 0, _ => by simp [PW]
  | N + 1, h => by
    have h1 := PW_len (E := E) (B := B) (N := N) (fun i hi => h i (by omega))
    have h2 := h N (by omega)
    rw [PW, List.length_append, pcs_len, Nat.add_mul]
    omega
theorem eOk_data {e : tt.En} (h : tt.eOk e = true) : e.data.size ≤ 20000 := by
  unfold tt.eOk tt.cOk at h
  simp only [Bool.and_eq_true, decide_eq_true_eq] at h
  exact h.2.1
/-- What both answer. -/
noncomputable def rfA (E : Nat → tt.En) (n : Nat) (xs : List (List UInt8)) : List (List UInt8) := if tt.treeB E n = true ∧ xs.length ≤ 2000 then rfs E n xs else []

theorem nil_row (w : World) : sr.OwnS w.heap.size (w.alloc (.cells #[] 9)) (.slice (some ⟨w.heap.size, 0, none⟩) 0 0) [] := ⟨sr.own_zero w, sr.not_nil _ _ _⟩

set_option maxHeartbeats 4000000 in
set_option maxRecDepth 100000 in
theorem irefs_any (E : Nat → tt.En) (b n cap : Nat) (xs : List (List UInt8)) (hx : ∀ x ∈ xs, x.length ≤ 1048576) (va : Option Addr) (xc : Nat) (w : World) (hR : tt.EnR w b 0 n E) (hS : tt.SmE n E) (hn : n ≤ 1048576) (hm : tt.ML w) (hC : tt.AtC E) (hX : sr.StrR w (.slice va xs.length xc) xs) (hxl : xs.length ≤ 1048576) (hT : wd.TabB w) :
    Calls Tryd.prog 9 #[.slice (some ⟨b, 0, none⟩) n cap, .slice va xs.length xc] w fun e w' => (∃ v, e = .returned v ∧ sr.OwnS w.heap.size w' v (rfA E n xs)) ∧ Below w.heap.size w w' := by
  have HT : Hid (Calls Tryd.prog 19 #[.slice (some ⟨b, 0, none⟩) n cap] w fun e w' => e = .returned (.bool (tt.treeB E n)) ∧ Below w.heap.size w w') := tt.itree_any E b 0 n cap w hR hS hn hm hC
  obtain ⟨q, hq⟩ : ∃ q, tt.treeB E n = q := ⟨_, rfl⟩
  rw [hq] at HT
  cases q with
  | false =>
    have HA : Hid (rfA E n xs = []) := by show _ = _; unfold rfA; rw [if_neg]; rw [hq]; simp
    rw [HA.out]
    clear hq hR hS hm hC hX hx
    go_enter Tryd.func9, Tryd.ntmps9
    go_wp2_with (go_at_call 19; refine HT.out.mono ?_; rintro e w1 ⟨rfl, hl1⟩)
    go_ret
    exact ⟨⟨_, rfl, (nil_row w1).mono hl1.size⟩, hl1.alloc hl1.size _⟩
  | true =>
    by_cases hlen : xs.length ≤ 2000
    · have hlen' : ¬ (2000 : Int) < (xs.length : Int) := by omega
      have HA : Hid (rfA E n xs = rfs E n xs) := by show _ = _; unfold rfA; rw [if_pos ⟨hq, hlen⟩]
      have HLK : Hid (∀ W, Below w.heap.size w W → Calls Tryd.prog 20 #[.slice va xs.length xc] W fun e w' => LkR W w' e (sr.adr xs) ∧ Below W.heap.size W w') := fun W k => lookoutFor_any xs hx _ W (hX.below k) (by omega) (hT.below k)
      obtain ⟨h500, htr⟩ := tree_is hq
      have hPW : (PW E n).length ≤ 10000000 := by
        have h1 := PW_len (E := E) (B := 20000) (N := n) (fun i hi => eOk_data (htr.1 i hi))
        have h2 : n * 20000 ≤ 500 * 20000 := Nat.mul_le_mul_right _ h500
        omega
      have hal := sr.adr_len xs
      have hla : ∀ a ∈ sr.adr xs, 15 ≤ a.length ∧ a.length ≤ 1048576 := fun a ha => by
        unfold sr.adr at ha
        rw [sr.fold_mem, List.mem_filter] at ha
        rcases ha with h | ⟨h1, h2⟩
        · cases h
        · exact ⟨adr_long h2, hx a h1⟩
      have HRF : Hid (∀ W g c b1 b2, Below w.heap.size w W → c ≤ maxLen → b1 ≠ b2 → sr.Blk W g c (sr.adr xs) → WM W b1 (sr.adr xs) → OwM W b2 0 (.map []) → Calls Tryd.prog 21 #[.agg #[.slice (some ⟨g, 0, none⟩) (sr.adr xs).length c, .map (some b1), .map (some b2)], .slice (some ⟨b, 0, none⟩) n cap] W fun e w' => (∃ v, e = .returned v ∧ sr.OwnS W.heap.size w' v (rfs E n xs)) ∧ W.grownBy w' (some b2)) := fun W g c b1 b2 k h1 h2 h3 h4 h5 => refs_any (sr.adr xs) g c b1 b2 0 _ E b 0 n cap W h3 h1 (by omega) hla h4 h5 h2 (hR.below k) hS hn hPW
      rw [HA.out]
      obtain ⟨m, hmm⟩ : ∃ m, xs.length = m := ⟨_, rfl⟩
      rw [hmm] at hlen' HLK ⊢
      clear hq hR hS hm hC hX hx hPW hla htr hal hlen hxl hmm hT
      go_enter Tryd.func9, Tryd.ntmps9
      go_wp2_with (first
        | (go_at_call 19; refine HT.out.mono ?_; rintro e w1 ⟨rfl, hl1⟩; have HL1 := Lib.hid hl1; clear hl1)
        | (go_at_call 20; refine (HLK.out _ HL1.out).mono ?_; rintro e w2 ⟨⟨g, c, b1, b2, rfl, hg, hb1, hb2, hne, hcm, hbk, hwm, hom⟩, hl2⟩; have HL2 := Lib.hid hl2; have HBK := Lib.hid hbk; have HWM := Lib.hid hwm; have HOM := Lib.hid hom; clear hl2 hbk hwm hom)
        | (go_at_call 21; refine (HRF.out _ _ _ _ _ (HL1.out.trans (HL2.out.mono HL1.out.size)) hcm hne HBK.out HWM.out HOM.out).mono ?_; rintro e w3 ⟨⟨v, rfl, ho3⟩, hg3⟩; have HO3 := Lib.hid ho3; have HG3 := Lib.hid hg3; clear ho3 hg3))
      go_ret
      have hB : Below w.heap.size w w2 := HL1.out.trans (HL2.out.mono HL1.out.size)
      exact ⟨⟨_, rfl, HO3.out.mono hB.size⟩, hB.grown HG3.out hB.size (fun k hk => by have := Option.some.inj hk; have := HL1.out.size; omega)⟩
    · have hlen' : (2000 : Int) < (xs.length : Int) := by omega
      have HA : Hid (rfA E n xs = []) := by show _ = _; unfold rfA; rw [if_neg (fun h => hlen h.2)]
      rw [HA.out]
      clear hq hR hS hm hC hX hx
      go_enter Tryd.func9, Tryd.ntmps9
      go_wp2_with (go_at_call 19; refine HT.out.mono ?_; rintro e w1 ⟨rfl, hl1⟩)
      go_ret
      exact ⟨⟨_, rfl, (nil_row w1).mono hl1.size⟩, hl1.alloc hl1.size _⟩

set_option maxHeartbeats 4000000 in
set_option maxRecDepth 100000 in
theorem srefsIn_any (E : Nat → tt.En) (b n cap : Nat) (xs : List (List UInt8)) (hx : ∀ x ∈ xs, x.length ≤ 1048576) (bb xc : Nat) (w : World) (hR : tt.EnR w b 0 n E) (hS : tt.SmE n E) (hn : n ≤ 1048576) (hcap : n ≤ cap) (hcl : cap ≤ maxLen) (hX : ∀ i x, xs[i]? = some x → w.cell? ⟨bb, 0 + i, none⟩ = some (sr.strL x)) (hxl : xs.length ≤ 1048576) :
    Calls Tryd.prog 6 #[.slice (some ⟨b, 0, none⟩) n cap, .slice (some ⟨bb, 0, none⟩) xs.length xc] w fun e w' => (∃ v, e = .returned v ∧ sr.StrR w' v (rfA E n xs)) ∧ Below w.heap.size w w' := by
  have HT : Hid (Calls Tryd.prog 16 #[.slice (some ⟨b, 0, none⟩) n cap] w fun e w' => e = .returned (.bool (tt.treeB E n)) ∧ Below w.heap.size w w') := tt.stree_any E b 0 n cap w hR hS hn hcap hcl
  obtain ⟨q, hq⟩ : ∃ q, tt.treeB E n = q := ⟨_, rfl⟩
  rw [hq] at HT
  cases q with
  | false =>
    have HA : Hid (rfA E n xs = []) := by show _ = _; unfold rfA; rw [if_neg]; rw [hq]; simp
    rw [HA.out]
    clear hq hR hS hX hx
    go_enter Tryd.func6, Tryd.ntmps6
    go_wp2_with (go_at_call 16; refine HT.out.mono ?_; rintro e w1 ⟨rfl, hl1⟩)
    go_ret
    exact ⟨⟨_, rfl, sr.empty_row w1⟩, hl1.alloc hl1.size _⟩
  | true =>
    by_cases hlen : xs.length ≤ 2000
    · have hlen' : ¬ (2000 : Int) < (xs.length : Int) := by omega
      have HA : Hid (rfA E n xs = rfs E n xs) := by show _ = _; unfold rfA; rw [if_pos ⟨hq, hlen⟩]
      have HRF : Hid (∀ W, Below w.heap.size w W → Calls Tryd.prog 17 #[.slice (some ⟨b, 0, none⟩) n cap, .slice (some ⟨bb, 0, none⟩) xs.length xc] W fun e w' => (∃ v, e = .returned v ∧ sr.StrR w' v (rfs E n xs)) ∧ Below W.heap.size W w') := fun W k => srefs_any E b 0 n cap xs bb 0 xc W (hR.below k) hS hn (fun i x hi => (k.cell (p := ⟨bb, _, none⟩) (World.block_lt_of_cell? _ _ (hX i x hi))).trans (hX i x hi)) hx hlen
      rw [HA.out]
      obtain ⟨m, hmm⟩ : ∃ m, xs.length = m := ⟨_, rfl⟩
      rw [hmm] at hlen' HRF ⊢
      clear hq hR hS hX hx hlen hxl hmm
      go_enter Tryd.func6, Tryd.ntmps6
      go_wp2_with (first
        | (go_at_call 16; refine HT.out.mono ?_; rintro e w1 ⟨rfl, hl1⟩; have HL1 := Lib.hid hl1; clear hl1)
        | (go_at_call 17; refine (HRF.out _ HL1.out).mono ?_; rintro e w3 ⟨⟨v, rfl, ho3⟩, hg3⟩; have HO3 := Lib.hid ho3; have HG3 := Lib.hid hg3; clear ho3 hg3))
      go_ret
      exact ⟨⟨_, rfl, HO3.out⟩, HL1.out.trans (HG3.out.mono HL1.out.size)⟩
    · have hlen' : (2000 : Int) < (xs.length : Int) := by omega
      have HA : Hid (rfA E n xs = []) := by show _ = _; unfold rfA; rw [if_neg (fun h => hlen h.2)]
      rw [HA.out]
      clear hq hR hS hX hx
      go_enter Tryd.func6, Tryd.ntmps6
      go_wp2_with (go_at_call 16; refine HT.out.mono ?_; rintro e w1 ⟨rfl, hl1⟩)
      go_ret
      exact ⟨⟨_, rfl, sr.empty_row w1⟩, hl1.alloc hl1.size _⟩

end Go.Proofs.YtlolkckbpcfnbaaDoor.rf
