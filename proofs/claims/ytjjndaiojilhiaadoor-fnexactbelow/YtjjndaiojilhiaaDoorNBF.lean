import Derived.Test.YtjjndaiojilhiaaDoorNBE
namespace Go.Proofs.YtjjndaiojilhiaaDoor.tt
open Go.ChangeShapes Go.WideShapes Go.ChangeAt Go.RowKit Go.Deep
set_option linter.unusedVariables false
set_option linter.unusedSimpArgs false

/-! ### CutEntry: what both answer; the specification whole -/

theorem rowE_mono {base base' : Nat} {w : World} {v : Value} {n : Nat} {E : Nat → En} (h : RowE base w v n E) (hb : base' ≤ base) : RowE base' w v n E := by
  obtain ⟨g, cap, f, rfl, h1, h2, h3, h4, h5⟩ := h
  exact ⟨g, cap, f, rfl, Nat.le_trans hb h1, h2, h3, h4, h5⟩

/-- Whether something goes. -/
noncomputable def cuB (E : Nat → En) (n : Nat) (q : List UInt8) : Bool := treeB E n && decide (0 ≤ fnd E n q)
noncomputable def cuN (E : Nat → En) (n : Nat) (q : List UInt8) : Nat := if treeB E n = true then (if 0 ≤ fnd E n q then (stL E q n).length else n) else 0
noncomputable def cuF (E : Nat → En) (n : Nat) (q : List UInt8) : Nat → En := if 0 ≤ fnd E n q then selE E (stL E q n) else E
theorem fnd_at {E : Nat → En} {n : Nat} {q : List UInt8} (h : 0 ≤ fnd E n q) : ∃ j, j < n ∧ pth E j = q ∧ fnd E n q = (j : Int) := by
  unfold fnd at h ⊢
  rcases chd_cases E (fun j => j) n q with ⟨j, hj, hp, e⟩ | ⟨_, e⟩
  · exact ⟨j, hj, hp, by rw [e]; omega⟩
  · rw [e] at h; omega
theorem cuN_le (E : Nat → En) (n : Nat) (q : List UInt8) : cuN E n q ≤ n := by
  have := stL_le E q n
  unfold cuN
  split
  · split <;> omega
  · omega
theorem row0 (E : Nat → En) (w : World) : RowE w.heap.size (w.alloc (.cells #[] 38)) (.slice (some ⟨w.heap.size, 0, none⟩) 0 0) 0 E := own_rowE (made_own w 0 (by omega) #[] rfl) (by intro e; cases e)

set_option maxRecDepth 100000 in
theorem scut_any (E : Nat → En) (b n cap : Nat) (q : ByteArray) (w : World) (hR : EnR w b 0 n E) (hS : SmE n E) (hn : n ≤ 1048576) (hq : q.size ≤ 1048576) (hcap : n ≤ cap) (hcl : cap ≤ maxLen) :
    Calls Tryd.prog 6 #[.slice (some ⟨b, 0, none⟩) n cap, .string q] w fun r w' => (∃ v, r = .returned (.tuple #[v, .bool (cuB E n q.data.toList)]) ∧ RowE w.heap.size w' v (cuN E n q.data.toList) (cuF E n q.data.toList)) ∧ Below w.heap.size w w' := by
  have HT : Hid (∀ W, Below w.heap.size w W → Calls Tryd.prog 15 #[.slice (some ⟨b, 0, none⟩) n cap] W fun e w' => e = .returned (.bool (treeB E n)) ∧ Below W.heap.size W w') := fun W hb => stree_any E b 0 n cap W (hR.below hb) hS hn hcap hcl
  have HF : Hid (∀ W, Below w.heap.size w W → Asc E n → Calls Tryd.prog 16 #[.slice (some ⟨b, 0, none⟩) n cap, .string q] W fun e w' => (∃ r : Int, e = .returned (.int .i64 r) ∧ Fnd E n q.data.toList r) ∧ Below W.heap.size W w') := fun W hb hA => find_any E b 0 n cap q W (hR.below hb) hA hn hcap
  have HCC : Hid (∀ W, Below w.heap.size w W → Calls Tryd.prog 17 #[.slice (some ⟨b, 0, none⟩) n cap] W fun e w' => (∃ v, e = .returned v ∧ w'.ownsRow W.heap.size 38 4 v n (enC E n) ∧ v ≠ .slice none 0 0) ∧ Below W.heap.size W w') := fun W hW => copy_any E b 0 n cap W (hR.below hW) hn
  have HCU : Hid (∀ W j, Below w.heap.size w W → n ≤ 500 → j < n → pth E j = q.data.toList → Calls Tryd.prog 18 #[.slice (some ⟨b, 0, none⟩) n cap, .string q] W fun r w' => (∃ v, r = .returned (.tuple #[v, .bool true]) ∧ RowE W.heap.size w' v (stL E q.data.toList n).length (selE E (stL E q.data.toList n))) ∧ Below W.heap.size W w') := fun W j hW h5 hj hp => sl10cut_any E b n cap j q W (hR.below hW) hS h5 hq hj hp
  clear hR hS
  cases ht : treeB E n with
  | false =>
    rw [ht] at HT
    have HE : Hid (cuB E n q.data.toList = false ∧ cuN E n q.data.toList = 0) := ⟨by unfold cuB; rw [ht]; rfl, by unfold cuN; rw [if_neg (by rw [ht]; simp)]⟩
    clear ht
    go_enter Tryd.func6, Tryd.ntmps6
    go_wp2_with (go_at_call 15; refine (HT.out _ (Below.refl _ _)).mono ?_; rintro e w1 ⟨rfl, hl1⟩)
    go_ret2
    rw [HE.out.1, HE.out.2]
    exact ⟨⟨_, rfl, rowE_mono (row0 _ w1) hl1.size⟩, hl1.alloc hl1.size _⟩
  | true =>
    rw [ht] at HT
    obtain ⟨hn5, hTr⟩ := treeB_is ht
    have HA : Hid (Asc E n) := hTr.asc
    by_cases h0 : 0 ≤ fnd E n q.data.toList
    · obtain ⟨j, hj, hjp, hfj⟩ := fnd_at h0
      have HE : Hid (cuB E n q.data.toList = true ∧ cuN E n q.data.toList = (stL E q.data.toList n).length ∧ cuF E n q.data.toList = selE E (stL E q.data.toList n)) := ⟨by unfold cuB; rw [ht, decide_eq_true h0]; rfl, by unfold cuN; rw [if_pos ht, if_pos h0], by unfold cuF; rw [if_pos h0]⟩
      have HCU2 : Hid (∀ W, Below w.heap.size w W → Calls Tryd.prog 18 #[.slice (some ⟨b, 0, none⟩) n cap, .string q] W fun r w' => (∃ v, r = .returned (.tuple #[v, .bool true]) ∧ RowE W.heap.size w' v (stL E q.data.toList n).length (selE E (stL E q.data.toList n))) ∧ Below W.heap.size W w') := fun W hW => HCU.out W j hW hn5 hj hjp
      have hjn : ¬ (j : Int) < 0 := by omega
      clear ht hTr HCU h0 hjp
      go_enter Tryd.func6, Tryd.ntmps6
      go_wp2_with (first
        | (go_at_call 15; refine (HT.out _ (Below.refl _ _)).mono ?_; rintro e w1 ⟨rfl, hl1⟩)
        | (go_at_call 16; refine (HF.out _ hl1 HA.out).mono ?_; rintro e w2 ⟨⟨r, rfl, hr⟩, hl2⟩; obtain rfl := (fnd_of HA.out hr).trans hfj; have hb2 := hl1.trans (hl2.mono hl1.size))
        | (go_at_call 18; refine (HCU2.out _ hb2).mono ?_; rintro e w3 ⟨⟨v, rfl, hv⟩, hl3⟩))
      go_ret2
      rw [HE.out.1, HE.out.2.1, HE.out.2.2]
      exact ⟨⟨_, rfl, rowE_mono hv hb2.size⟩, hb2.trans (hl3.mono hb2.size)⟩
    · have HE : Hid (cuB E n q.data.toList = false ∧ cuN E n q.data.toList = n ∧ cuF E n q.data.toList = E) := ⟨by unfold cuB; rw [ht, decide_eq_false h0]; rfl, by unfold cuN; rw [if_pos ht, if_neg h0], by unfold cuF; rw [if_neg h0]⟩
      have hfn : fnd E n q.data.toList < 0 := by omega
      clear ht hTr HCU h0
      obtain ⟨F, hF⟩ : ∃ F, fnd E n q.data.toList = F := ⟨_, rfl⟩
      have HFE : Hid (fnd E n q.data.toList = F) := hF
      rw [hF] at hfn
      clear hF
      go_enter Tryd.func6, Tryd.ntmps6
      go_wp2_with (first
        | (go_at_call 15; refine (HT.out _ (Below.refl _ _)).mono ?_; rintro e w1 ⟨rfl, hl1⟩)
        | (go_at_call 16; refine (HF.out _ hl1 HA.out).mono ?_; rintro e w2 ⟨⟨r, rfl, hr⟩, hl2⟩; have hrF := (fnd_of HA.out hr).trans HFE.out; subst hrF; have hb2 := hl1.trans (hl2.mono hl1.size))
        | (go_at_call 17; refine (HCC.out _ hb2).mono ?_; rintro e w9 ⟨⟨v9, rfl, hown9, hv9⟩, hl9⟩; have HR9 : Hid (RowE w2.heap.size w9 v9 n E) := own_rowE hown9 hv9; clear hown9 hv9))
      go_ret2
      rw [HE.out.1, HE.out.2.1, HE.out.2.2]
      exact ⟨⟨_, rfl, rowE_mono HR9.out hb2.size⟩, hb2.trans (hl9.mono hb2.size)⟩

end Go.Proofs.YtjjndaiojilhiaaDoor.tt
