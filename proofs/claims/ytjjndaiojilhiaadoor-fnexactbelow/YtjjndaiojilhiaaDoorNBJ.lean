import Derived.Test.YtjjndaiojilhiaaDoorNBI
namespace Go.Proofs.YtjjndaiojilhiaaDoor.tt
open Go.ChangeShapes Go.WideShapes Go.ChangeAt Go.RowKit Go.Deep
set_option linter.unusedVariables false
set_option linter.unusedSimpArgs false

/-! ### Below: the specification -/

set_option maxHeartbeats 4000000 in
set_option maxRecDepth 100000 in
theorem sl10below_any (E : Nat → En) (b n cap : Nat) (P : ByteArray) (w : World) (hR : EnR w b 0 n E) (hS : SmE n E) (hn : n ≤ 500) (hPs : P.size ≤ 1048576) :
    Calls Tryd.prog 27 #[.slice (some ⟨b, 0, none⟩) n cap, .string P] w fun r w' => (∃ v, r = .returned v ∧ RowE w.heap.size w' v (unL E P.data.toList n).length (blF E n P.data.toList)) ∧ Below w.heap.size w w' := by
  have HR : Hid (∀ W, Below w.heap.size w W → EnR W b 0 n E) := fun W hW => hR.below hW
  have HC : Hid (∀ p W, p.size ≤ 1048576 → Calls Tryd.prog 30 #[.string p, .string P] W fun e w' => e = .returned (.bool (decide (Und p.data.toList P.data.toList))) ∧ w' = W) := fun p W hp => under_any p P hp hPs W
  have HS : Hid (SmE n E) := hS
  obtain ⟨F, hF⟩ : ∃ F : List Nat → Nat → En, F = selS E (P.size + 1) := ⟨_, rfl⟩
  have HFB : Hid (blF E n P.data.toList = F (unL E P.data.toList n)) := by show _ = _; rw [hF]; unfold blF; simp
  have HFS : Hid (∀ L i, enC (F (L ++ [i])) (L.length + 1) = enC (F L) L.length ++ [.string ((E i).path.extract (P.size + 1) (E i).path.size), .int .i64 (E i).kind, .string (E i).data, .bool (E i).exec]) := by rw [hF]; exact fun L i => selS_snoc E _ L i
  clear hR hS hF
  go_enter Tryd.func27, Tryd.ntmps27
  go_wp2
  go_loopw [5, 6] (fun v x wr => ∃ i : Nat, i ≤ n ∧ x = .int .i64 (i : Int) ∧ wr.ownsRow w.heap.size 38 4 v (unL E P.data.toList i).length (enC (F (unL E P.data.toList i)) (unL E P.data.toList i).length) ∧ v ≠ .slice none 0 0 ∧ Below w.heap.size w wr) (fun _ x _ => n - (intOf x).toNat)
  case atStart => exact ⟨0, Nat.zero_le _, rfl, made_own w 0 (by omega) #[] rfl, (by intro e; cases e), (Below.refl _ _).alloc (Nat.le_refl _) _⟩
  case round =>
    obtain ⟨i, hi, rfl, hown, hvn, hbel⟩ := hrel
    obtain ⟨L, hL⟩ : ∃ L, unL E P.data.toList i = L := ⟨_, rfl⟩
    have HL : Hid (unL E P.data.toList i = L) := hL
    have hLl : L.length ≤ 1000 := by have := unL_le E P.data.toList i; rw [hL] at this; omega
    rw [hL] at hown
    obtain ⟨at7, cp7, hv7⟩ := own_shape hown
    subst hv7
    have HOW : Hid (wr.ownsRow w.heap.size 38 4 (.slice at7 L.length cp7) L.length (enC (F L) L.length)) := hown
    have HNN : Hid (Value.slice at7 L.length cp7 ≠ .slice none 0 0) := hvn
    have HBE : Hid (Below w.heap.size w wr) := hbel
    clear hown hvn hbel hL
    by_cases hin : i < n
    · have hin' : (i : Int) < (n : Int) := by omega
      have hi0 : (0 : Int) ≤ (i : Int) := by omega
      obtain ⟨c0, c1, c2, c3⟩ := HR.out _ HBE.out i hin
      rw [Nat.zero_add] at c0 c1 c2 c3
      have HPM : Hid (pth E i = (E i).path.data.toList) := rfl
      have hsm := (HS.out i hin).1
      have HSU : Hid ((Und (pth E i) P.data.toList → unL E P.data.toList (i + 1) = L ++ [i]) ∧ (¬ Und (pth E i) P.data.toList → unL E P.data.toList (i + 1) = L)) := by rw [← HL.out]; exact unL_succ E P.data.toList i
      have HSN : Hid (enC (F (L ++ [i])) (L.length + 1) = enC (F L) L.length ++ [.string ((E i).path.extract (P.size + 1) (E i).path.size), .int .i64 (E i).kind, .string (E i).data, .bool (E i).exec]) := HFS.out L i
      obtain ⟨e1, he1⟩ : ∃ e1, E i = e1 := ⟨_, rfl⟩
      rw [he1] at c0 c1 c2 c3 HPM HSN hsm
      clear he1
      obtain ⟨M, kM, dM, xM⟩ := e1
      simp only at c0 c1 c2 c3 HPM HSN hsm
      have HCM : Hid (∀ W, Calls Tryd.prog 30 #[.string M, .string P] W fun e w' => e = .returned (.bool (decide (Und M.data.toList P.data.toList))) ∧ w' = W) := fun W => HC.out M W hsm
      by_cases hu : Und M.data.toList P.data.toList
      · rw [decide_eq_true hu] at HCM
        have HLN : Hid (unL E P.data.toList (i + 1) = L ++ [i]) := HSU.out.1 (by rw [HPM.out]; exact hu)
        have hsz := und_size hu
        have hsz1 : (P.size : Int) + 1 ≤ (M.size : Int) := by omega
        have hsz0 : (0 : Int) ≤ (P.size : Int) + 1 := by omega
        have hw1 : wrap64 ((P.size : Int) + 1) = (P.size : Int) + 1 := by unfold wrap64; omega
        have HOA : Hid (∀ ob ob2, ((wr.alloc ob).alloc ob2).ownsRow w.heap.size 38 4 (.slice at7 L.length cp7) L.length (enC (F L) L.length)) := fun ob ob2 => own_below HOW.out (((Below.refl _ _).alloc (Nat.le_refl _) _).alloc (by simp) _)
        have HBA : Hid (∀ ob ob2, Below w.heap.size w ((wr.alloc ob).alloc ob2)) := fun ob ob2 => (HBE.out.alloc HBE.out.size _).alloc (by have := HBE.out.size; simp; omega) _
        have HSA : Hid (∀ ob ob2, w.heap.size ≤ ((wr.alloc ob).alloc ob2).heap.size) := fun ob ob2 => (HBA.out ob ob2).size
        have HCW : Hid (L.length ≤ 2000000) := by show _ ≤ _; omega
        clear hsm hu hsz
        go_wp2_with (first
          | (go_at_call 30; refine (HCM.out _).mono ?_; rintro e w1 ⟨rfl, hw⟩; have hw2 := hw.symm; subst hw2; clear hw)
          | (at_builtin; refine app_ent _ rfl _ _ rfl w.heap.size _ _ _ rfl (HOA.out _ _) HNN.out ⟨wr.heap.size + 1, 0, none⟩ 1 (.string (M.extract (P.size + 1) M.size)) (.int .i64 kM) (.string dM) (.bool xM) rfl (four_at _ _ (by simp) _ _ _ _ _) (four_one _ kM dM xM) HCW.out (HSA.out _ _) ?_; intro v6 w6 hownw6 hvw6 hgw6; refine Hid.out ?_)
          | go_in)
        refine Lib.hid ?_
        have HB6 : Hid (Below w.heap.size w w6) := (HBA.out _ _).grown hgw6 (HBA.out _ _).size (fun k hk => ((HOA.out (.cells #[.string (M.extract (P.size + 1) M.size), .int .i64 kM, .string dM, .bool xM] 38) (.cells #[.string (M.extract (P.size + 1) M.size), .int .i64 kM, .string dM, .bool xM] 38)).lt k hk).1)
        have HO6 : Hid (w6.ownsRow w.heap.size 38 4 v6 (L.length + 1) (enC (F (L ++ [i])) (L.length + 1))) := by rw [HSN.out]; exact hownw6
        have HV6 : Hid (v6 ≠ .slice none 0 0) := hvw6
        clear hownw6 hvw6 hgw6 c0 c1 c2 c3
        go_wp2
        go_roundw
        case rel => exact ⟨i + 1, by omega, by go_num, by rw [HLN.out, List.length_append]; exact HO6.out, HV6.out, HB6.out⟩
        case measure => simp [intOf] <;> omega
      · rw [decide_eq_false hu] at HCM
        have HLN : Hid (unL E P.data.toList (i + 1) = L) := HSU.out.2 (by rw [HPM.out]; exact hu)
        clear hsm hu
        go_wp2_with (go_at_call 30; refine (HCM.out _).mono ?_; rintro e w1 ⟨rfl, hw⟩; have hw2 := hw.symm; subst hw2; clear hw)
        go_roundw
        case rel => exact ⟨i + 1, by omega, by go_num, by rw [HLN.out]; exact HOW.out, HNN.out, HBE.out⟩
        case measure => simp [intOf] <;> omega
    · have hin' : ¬ (i : Int) < (n : Int) := by omega
      obtain rfl : i = n := by omega
      go_wp2
      go_ret
      rw [HFB.out, HL.out]
      exact ⟨⟨_, rfl, own_rowE HOW.out HNN.out⟩, HBE.out⟩

set_option maxRecDepth 100000 in
theorem sbel_any (E : Nat → En) (b n cap : Nat) (q : ByteArray) (w : World) (hR : EnR w b 0 n E) (hS : SmE n E) (hn : n ≤ 1048576) (hq : q.size ≤ 1048576) (hcap : n ≤ cap) (hcl : cap ≤ maxLen) :
    Calls Tryd.prog 12 #[.slice (some ⟨b, 0, none⟩) n cap, .string q] w fun r w' => (∃ v, r = .returned v ∧ RowE w.heap.size w' v (blN E n q.data.toList) (blF E n q.data.toList)) ∧ Below w.heap.size w w' := by
  have HT : Hid (∀ W, Below w.heap.size w W → Calls Tryd.prog 15 #[.slice (some ⟨b, 0, none⟩) n cap] W fun e w' => e = .returned (.bool (treeB E n)) ∧ Below W.heap.size W w') := fun W hb => stree_any E b 0 n cap W (hR.below hb) hS hn hcap hcl
  have HD : Hid (∀ W, Below w.heap.size w W → Asc E n → Calls Tryd.prog 26 #[.slice (some ⟨b, 0, none⟩) n cap, .string q] W fun e w' => e = .returned (.bool (dirB E n q.data.toList)) ∧ Below W.heap.size W w') := fun W hb hA => dir_any E b 0 n cap q W (hR.below hb) hA hn hcap
  have HL : Hid (∀ W, Below w.heap.size w W → n ≤ 500 → Calls Tryd.prog 27 #[.slice (some ⟨b, 0, none⟩) n cap, .string q] W fun r w' => (∃ v, r = .returned v ∧ RowE W.heap.size w' v (unL E q.data.toList n).length (blF E n q.data.toList)) ∧ Below W.heap.size W w') := fun W hW h5 => sl10below_any E b n cap q W (hR.below hW) hS h5 hq
  clear hR hS
  cases ht : treeB E n with
  | false =>
    rw [ht] at HT
    have HE : Hid (blN E n q.data.toList = 0) := by show _ = _; unfold blN; rw [if_neg (by rw [ht]; simp)]
    clear ht
    go_enter Tryd.func12, Tryd.ntmps12
    go_wp2_with (go_at_call 15; refine (HT.out _ (Below.refl _ _)).mono ?_; rintro e w1 ⟨rfl, hl1⟩)
    go_ret
    rw [HE.out]
    exact ⟨⟨_, rfl, rowE_mono (row0 _ w1) hl1.size⟩, hl1.alloc hl1.size _⟩
  | true =>
    rw [ht] at HT
    obtain ⟨hn5, hTr⟩ := treeB_is ht
    have HA : Hid (Asc E n) := hTr.asc
    cases hd : dirB E n q.data.toList with
    | false =>
      rw [hd] at HD
      have HE : Hid (blN E n q.data.toList = 0) := by show _ = _; unfold blN; rw [if_neg (by rw [hd]; simp)]
      clear ht hd hTr
      go_enter Tryd.func12, Tryd.ntmps12
      go_wp2_with (first
        | (go_at_call 15; refine (HT.out _ (Below.refl _ _)).mono ?_; rintro e w1 ⟨rfl, hl1⟩)
        | (go_at_call 26; refine (HD.out _ hl1 HA.out).mono ?_; rintro e w2 ⟨rfl, hl2⟩; have hb2 := hl1.trans (hl2.mono hl1.size)))
      go_ret
      rw [HE.out]
      exact ⟨⟨_, rfl, rowE_mono (row0 _ w2) hb2.size⟩, hb2.alloc hb2.size _⟩
    | true =>
      rw [hd] at HD
      have HE : Hid (blN E n q.data.toList = (unL E q.data.toList n).length) := by show _ = _; unfold blN; rw [if_pos ⟨ht, hd⟩]
      clear ht hd hTr
      go_enter Tryd.func12, Tryd.ntmps12
      go_wp2_with (first
        | (go_at_call 15; refine (HT.out _ (Below.refl _ _)).mono ?_; rintro e w1 ⟨rfl, hl1⟩)
        | (go_at_call 26; refine (HD.out _ hl1 HA.out).mono ?_; rintro e w2 ⟨rfl, hl2⟩; have hb2 := hl1.trans (hl2.mono hl1.size))
        | (go_at_call 27; refine (HL.out _ hb2 hn5).mono ?_; rintro e w3 ⟨⟨v, rfl, hv⟩, hl3⟩))
      go_ret
      rw [HE.out]
      exact ⟨⟨_, rfl, rowE_mono hv hb2.size⟩, hb2.trans (hl3.mono hb2.size)⟩

end Go.Proofs.YtjjndaiojilhiaaDoor.tt
